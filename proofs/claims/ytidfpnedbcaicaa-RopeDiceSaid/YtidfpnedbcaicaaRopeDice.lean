/- Two ropes by different dice answer the same to the same deeds. Conditions: none beyond the form's own. -/
import Derived.Test.YtidfpnedbcaicaaRows
import Derived.Test.YtidfpnedbcaicaaArgs
import Derived.Test.YtidfpnedbcaicaaRdEnd
namespace Go.Proofs.Ytidfpnedbcaicaa.ropeDice
open Go.Proofs.Ytidfpnedbcaicaa
open Go.ChangeShapes Go.WideShapes Go.ChangeAt Go.RowKit Go.Deep
open Go.ChangeMaps (open_string shut_string)
set_option linter.unusedVariables false

theorem own : ownKnob Try.prog.godebug = none := by kernel_rfl
theorem laidOut : laidOutB Try.prog = true := by kernel_rfl
-- opt:16000000
attribute [local go_sem ↓] Go.wp_at_zero Go.wp_at_succ
theorem neq_tal (a b c d : Int) (w : World) : (binOp .neq 46 (.agg #[.int .i64 a, .int .i64 b, .int .i64 c, .int .i64 d]) (.agg #[.int .i64 a, .int .i64 b, .int .i64 c, .int .i64 d])).run Try.prog w = .ok (.bool false) w := by
  go_simp
theorem eqg_tal3 (p q : Operand) (a b c d : Int) (w : World) : (eqGuard .neq 46 p q (.agg #[.int .i64 a, .int .i64 b, .int .i64 c, .int .i64 d]) (.agg #[.int .i64 a, .int .i64 b, .int .i64 c, .int .i64 d])).run Try.prog w = .ok () w :=
  run_eqGuard_agg _ _ _ _ _ _ _ (by kernel_rfl)
attribute [local go_sem] neq_tal eqg_tal3 later_cell later_frozen
def DiInv (n : Nat) (w0 : World) (d g d2 g2 r o : Nat) (i : Value) (wr : World) : Prop :=
  ∃ (k : Nat) (sv : ByteArray) (t u : T), i = .int .i64 k ∧ k ≤ n ∧ (sv.size : Int) ≤ 300 + 300 * (k : Int) ∧ Hid (Tx t sv) ∧ Hid (Tx u sv) ∧ Hid (Rst w0 wr [(d2, g2), (d, g)] [(r, d, t), (o, d2, u)])
theorem talbox {w : World} {B : Nat} {a b c d : Int} (h : w.heap[B]? = some (.cells #[.int .i64 a, .int .i64 b, .int .i64 c, .int .i64 d] 46)) : w.cell? ⟨B, 0, none⟩ = some (.int .i64 a) ∧ w.cell? ⟨B, 1, none⟩ = some (.int .i64 b) ∧ w.cell? ⟨B, 2, none⟩ = some (.int .i64 c) ∧ w.cell? ⟨B, 3, none⟩ = some (.int .i64 d) := by
  refine ⟨?_, ?_, ?_, ?_⟩
  all_goals
    rw [Lib.cell_of_heap h]
    rfl
theorem rem3 (k : Nat) : (k : Int).tmod 3 = ((k % 3 : Nat) : Int) := by
  rw [Int.tmod_eq_emod_of_nonneg (by omega)]
  omega
theorem ints_bl {w w' : World} {a : Option Addr} {n cap : Nat} {z : List Int} (h : IsInts .u32 w a n cap z) (hb : Below w.heap.size w w') : IsInts .u32 w' a n cap z := by
  rcases h with h | ⟨x, h1, h2, h3, h4, h5, h6⟩
  · exact .inl h
  · exact .inr ⟨x, h1, h2, h3, h4, fun i hi => cell_later hb (h5 i hi), h6⟩
set_option maxRecDepth 100000 in
set_option maxHeartbeats 16000000 in
theorem walk (a0 : Option Addr) (len0 cap0 : Nat) (z0 : List Int) (a1 : Option Addr) (len1 cap1 : Nat) (z1 : List Int) (a2 : ByteArray) (a3 : Value) (l3 : List De) (w : World) (w0 : IsInts .u32 w a0 len0 cap0 z0) (w1 : IsInts .u32 w a1 len1 cap1 z1) (w2 : a2.size ≤ maxLen) (w3 : DeAt w a3 l3) (b3 : ∀ d ∈ l3, WfDe d) :
    Calls Try.prog 5 #[.slice a0 len0 cap0, .slice a1 len1 cap1, .string a2, a3] w fun e w' => e = .returned (.bool true) ∧ Below w.heap.size w w' := by
  have hl0 := deat_long w3
  have W2 := hide w3
  obtain ⟨aG, cG, rfl⟩ := deat_len w3
  have HI := hide w0
  have HI2 := hide w1
  have HDW := hide b3
  clear w0 w1 w2 w3 b3
  by_cases h0 : len0 ≤ 40
  · have g0 : decide (40 < (len0 : Int)) = false := decide_eq_false (by omega)
    by_cases h1 : len1 ≤ 40
    · have g1 : decide (40 < (len1 : Int)) = false := decide_eq_false (by omega)
      by_cases h2 : a2.size ≤ 300
      · have g2' : decide (300 < (a2.size : Int)) = false := decide_eq_false (by omega)
        go_enter Try.func5, Try.ntmps5
        go_wp2_with fail
        refine (much3_any 12 300 (by omega) _ l3 w W2.out hl0).mono ?_
        rintro e wa ⟨rr, rfl, hok, hwa⟩
        subst hwa
        cases rr
        case true =>
          clear hok
          go_wp2_with fail
          refine (awake3_any _).mono ?_
          rintro e w13 ⟨rfl, hb13⟩
          go_wp2
          go_ret
          exact ⟨rfl, hb13⟩
        case false =>
          obtain ⟨hn, hd⟩ := hok rfl
          have HD := hide hd
          clear hok hd
          go_wp2_with fail
          refine (rst_dnews (rst_start w) HI.out (by omega)).mono ?_
          rintro e wa1 ⟨d, g, rfl, hR, hb3⟩
          have HN := hide (rst_new1 hR (d := d) (g := g) (by simp) a2 (by omega))
          clear hR hb3
          go_wp2_with fail
          refine HN.out.mono ?_
          rintro e wa2 ⟨r, t, rfl, _, htx, hR⟩
          have HI4 := hide (ints_bl HI2.out hR.bel)
          have HT := hide htx
          have HDN := hide (rst_dnews hR HI4.out (by omega))
          clear htx hR HN
          go_wp2_with fail
          refine HDN.out.mono ?_
          rintro e wa3 ⟨d2, g2, rfl, hR, hb5⟩
          have HN := hide (rst_new1 hR (d := d2) (g := g2) (by simp) a2 (by omega))
          clear hR hb5 HDN HI4
          go_wp2_with fail
          refine HN.out.mono ?_
          rintro e wa4 ⟨o, u, rfl, _, htx, hR⟩
          have HU := hide htx
          have HR := hide hR.swap
          clear htx hR HN
          go_wp2
          go_loopw [13] (fun i wr => DiInv l3.length w d g d2 g2 r o i wr) (fun i _ => l3.length - (intOf i).toNat)
          case atStart => exact ⟨0, a2, t, u, rfl, Nat.zero_le _, by omega, HT, HU, HR⟩
          case round =>
            obtain ⟨k, sv, t, u, rfl, hk, hsz, HT, HU, HR⟩ := hrel
            by_cases hlt : k < l3.length
            · have hDE := deat_below W2.out HR.out.bel
              obtain ⟨b1, o1, c1, hv1, hc1, hm1, hlb1, hcell1⟩ := deat_some hDE (by omega)
              injection hv1 with hv1 _ hv1c
              subst hv1 hv1c
              unfold maxLen at hm1
              obtain ⟨x0, x1, x2, x3⟩ := hcell1 k hlt
              have hdk := HD.out _ (List.getElem_mem hlt)
              have hwf := HDW.out _ (List.getElem_mem hlt)
              clear hcell1 hDE
              generalize l3[k] = y at *
              obtain ⟨dk, da, db, dx⟩ := y
              simp only at x0 x1 x2 x3 hdk
              obtain ⟨_, _, hwb, _⟩ := hwf
              have hdb : db ≤ 9223372036854775807 := by
                simp [Lit.wf, IntKind.min, IntKind.max, IntKind.signed, IntKind.bits] at hwb
                omega
              clear hwb
              have hr3 := rem3 k
              have hw3 : IntKind.i64.wrap ((k % 3 : Nat) : Int) = ((k % 3 : Nat) : Int) := IntWalk.i64_in _ (by omega)
              have HL400 := hide (fun W => low_any da 400 W (by omega) (by omega))
              have HLA := hide (fun W => low_any da 300 W (by omega) (by omega))
              have HLB := hide (fun W => low_any db 600 W (by omega) (by omega))
              generalize lowN da 400 = pi at *
              generalize lowN da 300 = pa at *
              generalize lowN db 600 = pb at *
              have hcase : k % 3 = 0 ∨ k % 3 = 1 ∨ k % 3 = 2 := by omega
              rcases hcase with hc | hc | hc
              · rw [hc] at hr3 hw3
                clear hc
                go_wp2
                refine wp_region_later (by kernel_rfl) (by kernel_rfl) ?_
                repeat (go_big_quiet_step (first | exact rfl))
                refine wpQuiet_nil ?_
                rintro wq ⟨⟨_, hbq⟩, rfl⟩
                have HR := hide (HR.out.bl hbq)
                have HIa := hide (rst_ins HR.out (g := g) (by simp) HT.out pi dx (by omega))
                obtain ⟨m0, hm0⟩ : ∃ m, mayR (pi : Int) (pi : Int) sv.size = m := ⟨_, rfl⟩
                obtain ⟨s2, hs2⟩ : ∃ s2, insT sv dx (pi : Int) = s2 := ⟨_, rfl⟩
                have hz := ins_size sv dx (pi : Int)
                rw [hs2] at hz HIa
                rw [hm0] at HIa
                go_wp2_with fail
                refine (HL400.out _).mono ?_
                rintro e w5 ⟨rfl, hw5⟩
                subst hw5
                go_wp2_with fail
                refine HIa.out.mono ?_
                rintro e w6 ⟨t2, rfl, htx, hR⟩
                have HT2 := hide htx
                have HIb := hide (rst_ins hR.swap (g := g2) (by simp) HU.out pi dx (by omega))
                rw [hs2, hm0] at HIb
                clear htx hR HIa HT HR
                go_wp2_with fail
                refine (HL400.out _).mono ?_
                rintro e w7 ⟨rfl, hw7⟩
                subst hw7
                go_wp2_with fail
                refine HIb.out.mono ?_
                rintro e w8 ⟨u2, rfl, hux, hR⟩
                have HU2 := hide hux
                have HR := hide hR.swap
                have hz2 : (s2.size : Int) ≤ 300 + 300 * ((k : Int) + 1) := by omega
                clear hux hR HIb HU hs2 hm0 hz hsz
                have hs20 : s2.size ≤ 5000 := by omega
                have hSa := fun W (hR : Rst w W [(d2, g2), (d, g)] [(r, d, t2), (o, d2, u2)]) => rst_slc hR (r := r) (d := d) (t := t2) (by simp) HT2.out pa pb (by omega)
                have hSb := fun W (hR : Rst w W [(d2, g2), (d, g)] [(r, d, t2), (o, d2, u2)]) => rst_slc hR (r := o) (d := d2) (t := u2) (by simp) HU2.out pa pb (by omega)
                have hCa := fun W (hR : Rst w W [(d2, g2), (d, g)] [(r, d, t2), (o, d2, u2)]) => rst_cnt hR (r := r) (d := d) (t := t2) (by simp) HT2.out pb (by omega)
                have hCb := fun W (hR : Rst w W [(d2, g2), (d, g)] [(r, d, t2), (o, d2, u2)]) => rst_cnt hR (r := o) (d := d2) (t := u2) (by simp) HU2.out pb (by omega)
                have hUa := fun W (hR : Rst w W [(d2, g2), (d, g)] [(r, d, t2), (o, d2, u2)]) => rst_upto hR (r := r) (d := d) (t := t2) (by simp) HT2.out da db hdb (by omega)
                have hUb := fun W (hR : Rst w W [(d2, g2), (d, g)] [(r, d, t2), (o, d2, u2)]) => rst_upto hR (r := o) (d := d2) (t := u2) (by simp) HU2.out da db hdb (by omega)
                obtain ⟨sl, hsl⟩ : ∃ x, slcT s2 (pa : Int) (pb : Int) = x := ⟨_, rfl⟩
                obtain ⟨m1, hm1⟩ : ∃ m, mayR (pa : Int) (pb : Int) s2.size = m := ⟨_, rfl⟩
                obtain ⟨m2, hm2⟩ : ∃ m, mayR 0 (pb : Int) s2.size = m := ⟨_, rfl⟩
                obtain ⟨q, hq⟩ : ∃ q, upto da db s2.data.toList = q := ⟨_, rfl⟩
                rw [hsl, hm1] at hSa hSb
                rw [hm2] at hCa hCb
                rw [hq] at hUa hUb
                have HSa := hide hSa
                have HSb := hide hSb
                have HCa := hide hCa
                have HCb := hide hCb
                have HUa := hide hUa
                have HUb := hide hUb
                clear hSa hSb hCa hCb hUa hUb hsl hm1 hm2 hq
                go_wp2_with fail
                refine (HLA.out _).mono ?_
                rintro e w10 ⟨rfl, hw10⟩
                subst hw10
                go_wp2_with fail
                refine (HLB.out _).mono ?_
                rintro e w10 ⟨rfl, hw10⟩
                subst hw10
                go_wp2_with fail
                refine (HSa.out _ HR.out).mono ?_
                rintro e w11 ⟨rfl, hb11⟩
                have HR := hide (HR.out.bl hb11)
                go_wp2_with fail
                refine (HLA.out _).mono ?_
                rintro e w10 ⟨rfl, hw10⟩
                subst hw10
                go_wp2_with fail
                refine (HLB.out _).mono ?_
                rintro e w10 ⟨rfl, hw10⟩
                subst hw10
                go_wp2_with fail
                refine (HSb.out _ HR.out).mono ?_
                rintro e w12 ⟨rfl, hb12⟩
                have HR := hide (HR.out.bl hb12)
                go_wp2_with fail
                refine (HLB.out _).mono ?_
                rintro e w10 ⟨rfl, hw10⟩
                subst hw10
                go_wp2_with fail
                refine (HCa.out _ HR.out).mono ?_
                rintro e w13 ⟨v0, v1, v2, v3, hv, rfl, hb13⟩
                have HR := hide (HR.out.bl hb13)
                have HV := hide hv
                clear hv
                go_wp2_with fail
                refine (HLB.out _).mono ?_
                rintro e w10 ⟨rfl, hw10⟩
                subst hw10
                have hnw : w13.heap.size < (w13.alloc (Obj.cells #[.int .i64 v0, .int .i64 v1, .int .i64 v2, .int .i64 v3] 46)).heap.size := by simp
                go_wp2_with fail
                refine (HCb.out _ (HR.out.bl (bl_alloc (bl_refl _) _))).mono ?_
                rintro e w14 ⟨u0, u1, u2', u3, hu, rfl, hb14⟩
                obtain ⟨rfl, rfl, rfl, rfl⟩ := cntIs_same HV.out hu
                have hA : w14.heap[w13.heap.size]? = some (.cells #[.int .i64 v0, .int .i64 v1, .int .i64 v2, .int .i64 v3] 46) := (hb14.block _ hnw).trans (heap_alloc_new w13 _)
                have HR := hide ((HR.out.bl (bl_trans (bl_alloc (bl_refl _) _) hb14)).bl (bl_alloc (bl_refl w14) (.cells #[.int .i64 v0, .int .i64 v1, .int .i64 v2, .int .i64 v3] 46)))
                obtain ⟨b0, b1', b2, b3⟩ := talbox (((bl_alloc (bl_refl w14) (.cells #[.int .i64 v0, .int .i64 v1, .int .i64 v2, .int .i64 v3] 46)).block _ (Array.getElem?_eq_some_iff.1 hA).1).trans hA)
                obtain ⟨e0, e1, e2, e3⟩ := talbox (heap_alloc_new w14 (.cells #[.int .i64 v0, .int .i64 v1, .int .i64 v2, .int .i64 v3] 46))
                clear hu hA HV hnw
                go_wp2_with fail
                refine (HUa.out _ HR.out).mono ?_
                rintro e w15 ⟨rfl, hb15⟩
                have HR := hide (HR.out.bl hb15)
                clear b0 b1' b2 b3 e0 e1 e2 e3
                go_wp2_with fail
                refine (HUb.out _ HR.out).mono ?_
                rintro e w16 ⟨rfl, hb16⟩
                have HR := hide (HR.out.bl hb16)
                have HX1 := hide (rst_text HR.out (r := r) (d := d) (t := t2) (by simp) HT2.out (by omega))
                go_wp2_with fail
                refine HX1.out.mono ?_
                rintro e w17 ⟨rfl, _, hR⟩
                have HX2 := hide (rst_text hR (r := o) (d := d2) (t := u2) (by simp) HU2.out (by omega))
                clear hR HX1
                go_wp2_with fail
                refine HX2.out.mono ?_
                rintro e w18 ⟨rfl, _, hR⟩
                have HR := hide hR
                clear hR HX2 HSa HSb HCa HCb HUa HUb
                go_wp2
                refine ⟨?_, by first | (simp [intOf]; done) | (simp [intOf]; omega)⟩
                exact ⟨k + 1, s2, t2, u2, by go_num, by omega, by push_cast; omega, HT2, HU2, HR⟩
              · rw [hc] at hr3 hw3
                clear hc
                go_wp2
                refine wp_region_later (by kernel_rfl) (by kernel_rfl) ?_
                repeat (go_big_quiet_step (first | exact rfl))
                refine wpQuiet_nil ?_
                rintro wq ⟨⟨_, hbq⟩, rfl⟩
                have HR := hide (HR.out.bl hbq)
                have HIa := hide (rst_del HR.out (g := g) (by simp) HT.out da db (by omega))
                obtain ⟨m0, hm0⟩ : ∃ m, mayR da db sv.size = m := ⟨_, rfl⟩
                obtain ⟨s2, hs2⟩ : ∃ s2, delT sv da db = s2 := ⟨_, rfl⟩
                have hz := del_size sv da db
                rw [hs2] at hz HIa
                rw [hm0] at HIa
                go_wp2_with fail
                refine HIa.out.mono ?_
                rintro e w6 ⟨t2, rfl, htx, hR⟩
                have HT2 := hide htx
                have HIb := hide (rst_del hR.swap (g := g2) (by simp) HU.out da db (by omega))
                rw [hs2, hm0] at HIb
                clear htx hR HIa HT HR
                go_wp2_with fail
                refine HIb.out.mono ?_
                rintro e w8 ⟨u2, rfl, hux, hR⟩
                have HU2 := hide hux
                have HR := hide hR.swap
                have hz2 : (s2.size : Int) ≤ 300 + 300 * ((k : Int) + 1) := by omega
                clear hux hR HIb HU hs2 hm0 hz hsz
                have hs20 : s2.size ≤ 5000 := by omega
                have hSa := fun W (hR : Rst w W [(d2, g2), (d, g)] [(r, d, t2), (o, d2, u2)]) => rst_slc hR (r := r) (d := d) (t := t2) (by simp) HT2.out pa pb (by omega)
                have hSb := fun W (hR : Rst w W [(d2, g2), (d, g)] [(r, d, t2), (o, d2, u2)]) => rst_slc hR (r := o) (d := d2) (t := u2) (by simp) HU2.out pa pb (by omega)
                have hCa := fun W (hR : Rst w W [(d2, g2), (d, g)] [(r, d, t2), (o, d2, u2)]) => rst_cnt hR (r := r) (d := d) (t := t2) (by simp) HT2.out pb (by omega)
                have hCb := fun W (hR : Rst w W [(d2, g2), (d, g)] [(r, d, t2), (o, d2, u2)]) => rst_cnt hR (r := o) (d := d2) (t := u2) (by simp) HU2.out pb (by omega)
                have hUa := fun W (hR : Rst w W [(d2, g2), (d, g)] [(r, d, t2), (o, d2, u2)]) => rst_upto hR (r := r) (d := d) (t := t2) (by simp) HT2.out da db hdb (by omega)
                have hUb := fun W (hR : Rst w W [(d2, g2), (d, g)] [(r, d, t2), (o, d2, u2)]) => rst_upto hR (r := o) (d := d2) (t := u2) (by simp) HU2.out da db hdb (by omega)
                obtain ⟨sl, hsl⟩ : ∃ x, slcT s2 (pa : Int) (pb : Int) = x := ⟨_, rfl⟩
                obtain ⟨m1, hm1⟩ : ∃ m, mayR (pa : Int) (pb : Int) s2.size = m := ⟨_, rfl⟩
                obtain ⟨m2, hm2⟩ : ∃ m, mayR 0 (pb : Int) s2.size = m := ⟨_, rfl⟩
                obtain ⟨q, hq⟩ : ∃ q, upto da db s2.data.toList = q := ⟨_, rfl⟩
                rw [hsl, hm1] at hSa hSb
                rw [hm2] at hCa hCb
                rw [hq] at hUa hUb
                have HSa := hide hSa
                have HSb := hide hSb
                have HCa := hide hCa
                have HCb := hide hCb
                have HUa := hide hUa
                have HUb := hide hUb
                clear hSa hSb hCa hCb hUa hUb hsl hm1 hm2 hq
                go_wp2_with fail
                refine (HLA.out _).mono ?_
                rintro e w10 ⟨rfl, hw10⟩
                subst hw10
                go_wp2_with fail
                refine (HLB.out _).mono ?_
                rintro e w10 ⟨rfl, hw10⟩
                subst hw10
                go_wp2_with fail
                refine (HSa.out _ HR.out).mono ?_
                rintro e w11 ⟨rfl, hb11⟩
                have HR := hide (HR.out.bl hb11)
                go_wp2_with fail
                refine (HLA.out _).mono ?_
                rintro e w10 ⟨rfl, hw10⟩
                subst hw10
                go_wp2_with fail
                refine (HLB.out _).mono ?_
                rintro e w10 ⟨rfl, hw10⟩
                subst hw10
                go_wp2_with fail
                refine (HSb.out _ HR.out).mono ?_
                rintro e w12 ⟨rfl, hb12⟩
                have HR := hide (HR.out.bl hb12)
                go_wp2_with fail
                refine (HLB.out _).mono ?_
                rintro e w10 ⟨rfl, hw10⟩
                subst hw10
                go_wp2_with fail
                refine (HCa.out _ HR.out).mono ?_
                rintro e w13 ⟨v0, v1, v2, v3, hv, rfl, hb13⟩
                have HR := hide (HR.out.bl hb13)
                have HV := hide hv
                clear hv
                go_wp2_with fail
                refine (HLB.out _).mono ?_
                rintro e w10 ⟨rfl, hw10⟩
                subst hw10
                have hnw : w13.heap.size < (w13.alloc (Obj.cells #[.int .i64 v0, .int .i64 v1, .int .i64 v2, .int .i64 v3] 46)).heap.size := by simp
                go_wp2_with fail
                refine (HCb.out _ (HR.out.bl (bl_alloc (bl_refl _) _))).mono ?_
                rintro e w14 ⟨u0, u1, u2', u3, hu, rfl, hb14⟩
                obtain ⟨rfl, rfl, rfl, rfl⟩ := cntIs_same HV.out hu
                have hA : w14.heap[w13.heap.size]? = some (.cells #[.int .i64 v0, .int .i64 v1, .int .i64 v2, .int .i64 v3] 46) := (hb14.block _ hnw).trans (heap_alloc_new w13 _)
                have HR := hide ((HR.out.bl (bl_trans (bl_alloc (bl_refl _) _) hb14)).bl (bl_alloc (bl_refl w14) (.cells #[.int .i64 v0, .int .i64 v1, .int .i64 v2, .int .i64 v3] 46)))
                obtain ⟨b0, b1', b2, b3⟩ := talbox (((bl_alloc (bl_refl w14) (.cells #[.int .i64 v0, .int .i64 v1, .int .i64 v2, .int .i64 v3] 46)).block _ (Array.getElem?_eq_some_iff.1 hA).1).trans hA)
                obtain ⟨e0, e1, e2, e3⟩ := talbox (heap_alloc_new w14 (.cells #[.int .i64 v0, .int .i64 v1, .int .i64 v2, .int .i64 v3] 46))
                clear hu hA HV hnw
                go_wp2_with fail
                refine (HUa.out _ HR.out).mono ?_
                rintro e w15 ⟨rfl, hb15⟩
                have HR := hide (HR.out.bl hb15)
                clear b0 b1' b2 b3 e0 e1 e2 e3
                go_wp2_with fail
                refine (HUb.out _ HR.out).mono ?_
                rintro e w16 ⟨rfl, hb16⟩
                have HR := hide (HR.out.bl hb16)
                have HX1 := hide (rst_text HR.out (r := r) (d := d) (t := t2) (by simp) HT2.out (by omega))
                go_wp2_with fail
                refine HX1.out.mono ?_
                rintro e w17 ⟨rfl, _, hR⟩
                have HX2 := hide (rst_text hR (r := o) (d := d2) (t := u2) (by simp) HU2.out (by omega))
                clear hR HX1
                go_wp2_with fail
                refine HX2.out.mono ?_
                rintro e w18 ⟨rfl, _, hR⟩
                have HR := hide hR
                clear hR HX2 HSa HSb HCa HCb HUa HUb
                go_wp2
                refine ⟨?_, by first | (simp [intOf]; done) | (simp [intOf]; omega)⟩
                exact ⟨k + 1, s2, t2, u2, by go_num, by omega, by push_cast; omega, HT2, HU2, HR⟩
              · rw [hc] at hr3 hw3
                clear hc
                go_wp2
                refine wp_region_later (by kernel_rfl) (by kernel_rfl) ?_
                repeat (go_big_quiet_step (first | exact rfl))
                refine wpQuiet_nil ?_
                rintro wq ⟨⟨_, hbq⟩, rfl⟩
                have HR := hide (HR.out.bl hbq)
                have hz2 : (sv.size : Int) ≤ 300 + 300 * ((k : Int) + 1) := by omega
                obtain ⟨s2, hs2⟩ : ∃ s2, sv = s2 := ⟨_, rfl⟩
                obtain ⟨t2, ht2⟩ : ∃ t2, t = t2 := ⟨_, rfl⟩
                obtain ⟨u2, hu2⟩ : ∃ u2, u = u2 := ⟨_, rfl⟩
                rw [hs2] at hz2 HT HU
                rw [ht2] at HT HR
                rw [hu2] at HU HR
                clear hs2 ht2 hu2
                have HT2 := HT
                have HU2 := HU
                clear HT HU hsz
                have hs20 : s2.size ≤ 5000 := by omega
                have hSa := fun W (hR : Rst w W [(d2, g2), (d, g)] [(r, d, t2), (o, d2, u2)]) => rst_slc hR (r := r) (d := d) (t := t2) (by simp) HT2.out pa pb (by omega)
                have hSb := fun W (hR : Rst w W [(d2, g2), (d, g)] [(r, d, t2), (o, d2, u2)]) => rst_slc hR (r := o) (d := d2) (t := u2) (by simp) HU2.out pa pb (by omega)
                have hCa := fun W (hR : Rst w W [(d2, g2), (d, g)] [(r, d, t2), (o, d2, u2)]) => rst_cnt hR (r := r) (d := d) (t := t2) (by simp) HT2.out pb (by omega)
                have hCb := fun W (hR : Rst w W [(d2, g2), (d, g)] [(r, d, t2), (o, d2, u2)]) => rst_cnt hR (r := o) (d := d2) (t := u2) (by simp) HU2.out pb (by omega)
                have hUa := fun W (hR : Rst w W [(d2, g2), (d, g)] [(r, d, t2), (o, d2, u2)]) => rst_upto hR (r := r) (d := d) (t := t2) (by simp) HT2.out da db hdb (by omega)
                have hUb := fun W (hR : Rst w W [(d2, g2), (d, g)] [(r, d, t2), (o, d2, u2)]) => rst_upto hR (r := o) (d := d2) (t := u2) (by simp) HU2.out da db hdb (by omega)
                obtain ⟨sl, hsl⟩ : ∃ x, slcT s2 (pa : Int) (pb : Int) = x := ⟨_, rfl⟩
                obtain ⟨m1, hm1⟩ : ∃ m, mayR (pa : Int) (pb : Int) s2.size = m := ⟨_, rfl⟩
                obtain ⟨m2, hm2⟩ : ∃ m, mayR 0 (pb : Int) s2.size = m := ⟨_, rfl⟩
                obtain ⟨q, hq⟩ : ∃ q, upto da db s2.data.toList = q := ⟨_, rfl⟩
                rw [hsl, hm1] at hSa hSb
                rw [hm2] at hCa hCb
                rw [hq] at hUa hUb
                have HSa := hide hSa
                have HSb := hide hSb
                have HCa := hide hCa
                have HCb := hide hCb
                have HUa := hide hUa
                have HUb := hide hUb
                clear hSa hSb hCa hCb hUa hUb hsl hm1 hm2 hq
                go_wp2_with fail
                refine (HLA.out _).mono ?_
                rintro e w10 ⟨rfl, hw10⟩
                subst hw10
                go_wp2_with fail
                refine (HLB.out _).mono ?_
                rintro e w10 ⟨rfl, hw10⟩
                subst hw10
                go_wp2_with fail
                refine (HSa.out _ HR.out).mono ?_
                rintro e w11 ⟨rfl, hb11⟩
                have HR := hide (HR.out.bl hb11)
                go_wp2_with fail
                refine (HLA.out _).mono ?_
                rintro e w10 ⟨rfl, hw10⟩
                subst hw10
                go_wp2_with fail
                refine (HLB.out _).mono ?_
                rintro e w10 ⟨rfl, hw10⟩
                subst hw10
                go_wp2_with fail
                refine (HSb.out _ HR.out).mono ?_
                rintro e w12 ⟨rfl, hb12⟩
                have HR := hide (HR.out.bl hb12)
                go_wp2_with fail
                refine (HLB.out _).mono ?_
                rintro e w10 ⟨rfl, hw10⟩
                subst hw10
                go_wp2_with fail
                refine (HCa.out _ HR.out).mono ?_
                rintro e w13 ⟨v0, v1, v2, v3, hv, rfl, hb13⟩
                have HR := hide (HR.out.bl hb13)
                have HV := hide hv
                clear hv
                go_wp2_with fail
                refine (HLB.out _).mono ?_
                rintro e w10 ⟨rfl, hw10⟩
                subst hw10
                have hnw : w13.heap.size < (w13.alloc (Obj.cells #[.int .i64 v0, .int .i64 v1, .int .i64 v2, .int .i64 v3] 46)).heap.size := by simp
                go_wp2_with fail
                refine (HCb.out _ (HR.out.bl (bl_alloc (bl_refl _) _))).mono ?_
                rintro e w14 ⟨u0, u1, u2', u3, hu, rfl, hb14⟩
                obtain ⟨rfl, rfl, rfl, rfl⟩ := cntIs_same HV.out hu
                have hA : w14.heap[w13.heap.size]? = some (.cells #[.int .i64 v0, .int .i64 v1, .int .i64 v2, .int .i64 v3] 46) := (hb14.block _ hnw).trans (heap_alloc_new w13 _)
                have HR := hide ((HR.out.bl (bl_trans (bl_alloc (bl_refl _) _) hb14)).bl (bl_alloc (bl_refl w14) (.cells #[.int .i64 v0, .int .i64 v1, .int .i64 v2, .int .i64 v3] 46)))
                obtain ⟨b0, b1', b2, b3⟩ := talbox (((bl_alloc (bl_refl w14) (.cells #[.int .i64 v0, .int .i64 v1, .int .i64 v2, .int .i64 v3] 46)).block _ (Array.getElem?_eq_some_iff.1 hA).1).trans hA)
                obtain ⟨e0, e1, e2, e3⟩ := talbox (heap_alloc_new w14 (.cells #[.int .i64 v0, .int .i64 v1, .int .i64 v2, .int .i64 v3] 46))
                clear hu hA HV hnw
                go_wp2_with fail
                refine (HUa.out _ HR.out).mono ?_
                rintro e w15 ⟨rfl, hb15⟩
                have HR := hide (HR.out.bl hb15)
                clear b0 b1' b2 b3 e0 e1 e2 e3
                go_wp2_with fail
                refine (HUb.out _ HR.out).mono ?_
                rintro e w16 ⟨rfl, hb16⟩
                have HR := hide (HR.out.bl hb16)
                have HX1 := hide (rst_text HR.out (r := r) (d := d) (t := t2) (by simp) HT2.out (by omega))
                go_wp2_with fail
                refine HX1.out.mono ?_
                rintro e w17 ⟨rfl, _, hR⟩
                have HX2 := hide (rst_text hR (r := o) (d := d2) (t := u2) (by simp) HU2.out (by omega))
                clear hR HX1
                go_wp2_with fail
                refine HX2.out.mono ?_
                rintro e w18 ⟨rfl, _, hR⟩
                have HR := hide hR
                clear hR HX2 HSa HSb HCa HCb HUa HUb
                go_wp2
                refine ⟨?_, by first | (simp [intOf]; done) | (simp [intOf]; omega)⟩
                exact ⟨k + 1, s2, t2, u2, by go_num, by omega, by push_cast; omega, HT2, HU2, HR⟩
            · obtain rfl : k = l3.length := by omega
              go_wp2_with fail
              refine (awake3_any _).mono ?_
              rintro e w8 ⟨rfl, hb8⟩
              have hb := bl_trans HR.out.bel hb8
              go_wp2
              go_ret
              exact ⟨rfl, hb⟩
      · have g2' : decide (300 < (a2.size : Int)) = true := decide_eq_true (by omega)
        go_enter Try.func5, Try.ntmps5
        go_wp2_with fail
        refine (awake3_any _).mono ?_
        rintro e w13 ⟨rfl, hb13⟩
        go_wp2
        go_ret
        exact ⟨rfl, hb13⟩
    · have g1 : decide (40 < (len1 : Int)) = true := decide_eq_true (by omega)
      go_enter Try.func5, Try.ntmps5
      go_wp2_with fail
      refine (awake3_any _).mono ?_
      rintro e w13 ⟨rfl, hb13⟩
      go_wp2
      go_ret
      exact ⟨rfl, hb13⟩
  · have g0 : decide (40 < (len0 : Int)) = true := decide_eq_true (by omega)
    go_enter Try.func5, Try.ntmps5
    go_wp2_with fail
    refine (awake3_any _).mono ?_
    rintro e w13 ⟨rfl, hb13⟩
    go_wp2
    go_ret
    exact ⟨rfl, hb13⟩

set_option maxRecDepth 100000 in
theorem lifted (os : Os) (started : os.Started) (H : Type) (enc : TypeId × Value → H) :
    ReturnsInHanded {} Try.checked os 5 .any (Rows.ropeDiceSpec.pre6 enc Try.prog Try.f5 Rows.ropeDiceRow.domain false) (Rows.ropeDiceSpec.post enc Try.prog Try.f5 false true false false) := by
  refine returnsInHanded_of_change (C := Try.checked) own started (by kernel_rfl) Try.func5
    (ChangeSpec.witness6 (enc := enc) (C := Try.checked) false ⟨#[], #[.slice none 0 0, .slice none 0 0, .string ByteArray.empty, .slice none 0 0], []⟩ 8 (by kernel_rfl) (by kernel_rfl) (by kernel_rfl) (by kernel_rfl)) ?_
  intro W base args ds gs before hval0 hW hcnd _
  have hval : ∀ (j : Nat) t v, Try.f5.params[j]? = some t → args[j]? = some v → Value.okWide Try.prog W .any base t v := hval0
  have hW' := hW
  obtain ⟨p, q, hA0, hV, rfl, hfz, hnd⟩ := hW
  have hA : DataW.TrodAll enc Try.prog W 0 (fun _ => true) true Try.f5.params.toList args.toList ds p := hA0
  rw [Try.params5] at hA hval
  obtain ⟨v0, vs0, d0, ds0, p0, q0, hargs, rfl, rfl, h0, r0⟩ := trodAll_cons hA
  obtain ⟨v1, vs1, d1, ds1, p1, q1, rfl, rfl, rfl, h1, r1⟩ := trodAll_cons r0
  obtain ⟨v2, vs2, d2, ds2, p2, q2, rfl, rfl, rfl, h2, r2⟩ := trodAll_cons r1
  obtain ⟨v3, vs3, d3, ds3, p3, q3, rfl, rfl, rfl, h3, r3⟩ := trodAll_cons r2
  obtain ⟨rfl, rfl, rfl⟩ := trodAll_nil r3
  obtain rfl : args = #[v0, v1, v2, v3] := by cases args; simp_all
  obtain ⟨rfl, rfl⟩ := trodVars_none hV
  have k0 := h0
  have lt0 : ∀ x ∈ p0, x.block < W.heap.size := by obtain ⟨m, hm⟩ := k0; exact DataW.trod_lt m _ _ _ hm
  obtain ⟨a0, len0, cap0, rfl⟩ := okWide_slice Try.underlying22 (hval 0 22 v0 rfl rfl)
  obtain ⟨z0, w0⟩ : ∃ zs, IsInts .u32 W a0 len0 cap0 zs := by
    obtain ⟨fuel, hf⟩ := h0
    rcases open_ints Try.underlying22 Try.underlying54 (by kernel_rfl) hf with ⟨hcs, _⟩ | ⟨x, l, c, zs, hcs, _, hl, hm, hz, _, hcell, hwz⟩
    · simp [Value.cells] at hcs
      obtain ⟨rfl, rfl, rfl⟩ := hcs
      exact ⟨[], .inl ⟨rfl, rfl, rfl, rfl⟩⟩
    · simp [Value.cells] at hcs
      obtain ⟨rfl, rfl, rfl⟩ := hcs
      exact ⟨zs, .inr ⟨_, rfl, hl, hm, by simpa using hz, hcell, hwz⟩⟩
  have k1 := h1
  have lt1 : ∀ x ∈ p1, x.block < W.heap.size := by obtain ⟨m, hm⟩ := k1; exact DataW.trod_lt m _ _ _ hm
  obtain ⟨a1, len1, cap1, rfl⟩ := okWide_slice Try.underlying22 (hval 1 22 v1 rfl rfl)
  obtain ⟨z1, w1⟩ : ∃ zs, IsInts .u32 W a1 len1 cap1 zs := by
    obtain ⟨fuel, hf⟩ := h1
    rcases open_ints Try.underlying22 Try.underlying54 (by kernel_rfl) hf with ⟨hcs, _⟩ | ⟨x, l, c, zs, hcs, _, hl, hm, hz, _, hcell, hwz⟩
    · simp [Value.cells] at hcs
      obtain ⟨rfl, rfl, rfl⟩ := hcs
      exact ⟨[], .inl ⟨rfl, rfl, rfl, rfl⟩⟩
    · simp [Value.cells] at hcs
      obtain ⟨rfl, rfl, rfl⟩ := hcs
      exact ⟨zs, .inr ⟨_, rfl, hl, hm, by simpa using hz, hcell, hwz⟩⟩
  have k2 := h2
  have lt2 : ∀ x ∈ p2, x.block < W.heap.size := by obtain ⟨m, hm⟩ := k2; exact DataW.trod_lt m _ _ _ hm
  obtain ⟨a2, rfl, hd2, hp2, w2⟩ := open_string Try.underlying9 (hval 2 9 v2 rfl rfl) h2
  have k3 := h3
  have lt3 : ∀ x ∈ p3, x.block < W.heap.size := by obtain ⟨m, hm⟩ := k3; exact DataW.trod_lt m _ _ _ hm
  obtain ⟨l3, w3, b3⟩ := open_dees (hval 3 23 v3 rfl rfl) h3
  clear hA0 hval0
  refine (walk a0 len0 cap0 z0 a1 len1 cap1 z1 a2 v3 l3 W w0 w1 w2 w3 b3).mono fun e W' ⟨he, bel⟩ => ?_
  subst he
  exact ⟨_, rfl, _, _, _, [], _, [], hW', trodAll_mk1 (shut_bool Try.underlying4 _), (trodAll_cons_mk (Below.trod laidOut (by kernel_rfl) (of_decide_eq_true (by kernel_rfl)) k0 bel lt0) (trodAll_cons_mk (Below.trod laidOut (by kernel_rfl) (of_decide_eq_true (by kernel_rfl)) k1 bel lt1) (trodAll_cons_mk (Below.trod laidOut (by kernel_rfl) (of_decide_eq_true (by kernel_rfl)) k2 bel lt2) (trodAll_cons_mk (Below.trod laidOut (by kernel_rfl) (of_decide_eq_true (by kernel_rfl)) k3 bel lt3) trodAll_mk0)))), rfl, bel.frame _, fun h => by cases h⟩

theorem over : Rows.ropeDiceRow.holds Try.pinned (OpenSpec.ofChange Rows.ropeDiceSpec) :=
  OpenClaim.holds_of_wide 5 Try.f5 rfl rfl rfl rfl rfl rfl rfl ⟨rfl, rfl, rfl, rfl, rfl⟩ rfl rfl rfl rfl rfl (by kernel_rfl) Try.func5 (by kernel_rfl)
    (of_decide_eq_true (by kernel_rfl)) (by unfold Func.isWrapper; first | (rw [if_pos (by decide +kernel)]; kernel_rfl) | (rw [if_neg (by decide +kernel)]; exact ⟨rfl, rfl⟩))
    (fun os started H enc _ => lifted os started H enc)

theorem proved : Rows.RopeDiceSaid := over
end Go.Proofs.Ytidfpnedbcaicaa.ropeDice
