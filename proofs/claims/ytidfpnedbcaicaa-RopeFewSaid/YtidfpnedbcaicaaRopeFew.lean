/- A text of n bytes has at least n / 64 pieces, and fewer than 2 n / 64 and two. Conditions: none beyond the form's own. -/
import Derived.Test.YtidfpnedbcaicaaRows
import Derived.Test.YtidfpnedbcaicaaArgs
import Derived.Test.YtidfpnedbcaicaaRdEnd
namespace Go.Proofs.Ytidfpnedbcaicaa.ropeFew
open Go.Proofs.Ytidfpnedbcaicaa
open Go.ChangeShapes Go.WideShapes Go.ChangeAt Go.RowKit Go.Deep
open Go.ChangeMaps (open_string shut_string)
set_option linter.unusedVariables false

theorem own : ownKnob Try.prog.godebug = none := by kernel_rfl
theorem laidOut : laidOutB Try.prog = true := by kernel_rfl
-- opt:16000000
attribute [local go_sem ↓] Go.wp_at_zero Go.wp_at_succ
theorem txp_le (l : List Pc) (h : ∀ q ∈ l, PcOk q) : (txP l).length ≤ 64 * l.length := by
  induction l with
  | nil => simp [txP]
  | cons a r ih =>
    have h1 := ih (fun q hq => h q (List.mem_cons_of_mem _ hq))
    have h2 := (h a List.mem_cons_self).1.2
    have h3 : a.2.1.data.toList.length = a.2.1.size := rfl
    rw [txP_cons, List.length_append, List.length_cons]
    omega
theorem adj_tail (a : Pc) (r : List Pc) (h : Adj (a :: r)) : Adj r := by
  cases r with
  | nil => trivial
  | cons b s => exact h.2
theorem txp_ge : ∀ (l : List Pc), Adj l → 65 * (l.length / 2) ≤ (txP l).length
  | [], _ => by simp
  | [a], _ => by simp
  | a :: b :: r, h => by
    have h1 := txp_ge r (adj_tail b r h.2)
    have h2 := h.1
    have h3 : a.2.1.data.toList.length = a.2.1.size := rfl
    have h4 : b.2.1.data.toList.length = b.2.1.size := rfl
    rw [txP_cons, txP_cons, List.length_append, List.length_append, List.length_cons, List.length_cons, h3, h4]
    omega
set_option maxRecDepth 100000 in
set_option maxHeartbeats 16000000 in
theorem walk (a0 : Option Addr) (len0 cap0 : Nat) (z0 : List Int) (a1 : Value) (l1 : List De) (w : World) (w0 : IsInts .u32 w a0 len0 cap0 z0) (w1 : DeAt w a1 l1) (b1 : ∀ d ∈ l1, WfDe d) :
    Calls Try.prog 8 #[.slice a0 len0 cap0, a1] w fun e w' => e = .returned (.bool true) ∧ Below w.heap.size w w' := by
  have hl0 := deat_long w1
  have W2 := hide w1
  obtain ⟨aG, cG, rfl⟩ := deat_len w1
  have HI := hide w0
  clear w0 w1 b1
  by_cases h0 : len0 ≤ 40
  · have g0 : decide (40 < (len0 : Int)) = false := decide_eq_false (by omega)
    go_enter Try.func8, Try.ntmps8
    go_wp2_with fail
    refine (much3_any 16 500 (by omega) _ l1 w W2.out hl0).mono ?_
    rintro e wa ⟨rr, rfl, hok, hwa⟩
    subst hwa
    cases rr
    case true =>
      clear hok
      go_wp2_with fail
      refine (awake3_any _).mono ?_
      rintro e w13 ⟨rfl, hb13⟩
      go_wp2
      go_ret
      exact ⟨rfl, hb13⟩
    case false =>
      obtain ⟨hn, hd⟩ := hok rfl
      have HD := hide hd
      clear hok hd
      go_wp2_with fail
      refine (rst_dnews (rst_start w) HI.out (by omega)).mono ?_
      rintro e w3 ⟨d, g, rfl, hR, hb3⟩
      have HN := hide (new_zero hR (d := d) (g := g) (by simp) none 0)
      clear hR
      go_wp2_with fail
      refine HN.out.mono ?_
      rintro e w4 ⟨r, t, rfl, _, htx, hR⟩
      have HT := hide htx
      have HR := hide hR
      clear htx hR HN
      go_wp2
      go_loopw [6, 8, 9] (fun r s i wr => DeInv l1.length 0 w d g s r i wr) (fun _ _ i _ => l1.length - (intOf i).toNat)
      case atStart => exact ⟨0, ⟨#[]⟩, r, t, rfl, rfl, rfl, Nat.zero_le _, by decide, HT, HR⟩
      case round =>
        obtain ⟨k, sv, rr, t, rfl, rfl, rfl, hk, hsz, HT, HR⟩ := hrel
        by_cases hlt : k < l1.length
        · have hDE := deat_below W2.out HR.out.bel
          obtain ⟨b1, o1, c1, hv1, hc1, hm1, hlb1, hcell1⟩ := deat_some hDE (by omega)
          injection hv1 with hv1 _ hv1c
          subst hv1 hv1c
          unfold maxLen at hm1
          obtain ⟨x0, x1, x2, x3⟩ := hcell1 k hlt
          have hdk := HD.out _ (List.getElem_mem hlt)
          clear hcell1 hDE
          generalize l1[k] = y at *
          obtain ⟨dk, da, db, dx⟩ := y
          simp only at x0 x1 x2 x3 hdk
          have HDO := hide (does_any HR.out (g := g) (by simp) HT.out dk da db dx (by omega))
          go_wp2_with fail
          refine HDO.out.mono ?_
          rintro e w5 ⟨s2, r2, t2, rfl, hs2, htx, hR⟩
          have HT2 := hide htx
          have HR2 := hide hR
          clear htx hR HDO HT HR x0 x1 x2 x3
          have hc2 := HR2.out.rp (r2, d, t2) (by simp)
          have ha2 := HR2.out.at' (q := (r2, d, t2)) (by simp)
          have hlen := HT2.out.len
          rw [t2.text_ps] at hlen
          have k1 := txp_le _ ha2.2.ok
          have k2 := txp_ge _ ha2.2.adj
          have k3 : t2.ps.length ≤ t2.text.length := t2.ps_le ha2.2.ok
          rw [HT2.out.len] at k3
          have hpc : (r2, d, t2).2.2.ps.length ≤ 100000 := by show t2.ps.length ≤ 100000; omega
          have HP := hide (pieces_r hc2 ha2.1 hpc)
          simp only at HP k1 k2
          rw [hlen] at k1 k2
          obtain ⟨np, hnp⟩ : ∃ np, t2.ps.length = np := ⟨_, rfl⟩
          rw [hnp] at HP k1 k2 k3
          obtain ⟨Q, hQ⟩ : ∃ Q : Int, (2 * (s2.size : Int)).tdiv 64 = Q := ⟨_, rfl⟩
          have hQ2 : Q = (2 * (s2.size : Int)) / 64 := by rw [← hQ, Int.tdiv_eq_ediv_of_nonneg (by omega)]
          have hw1 : IntKind.i64.wrap ((np : Int) * 64) = (np : Int) * 64 := IntWalk.i64_in _ (by omega)
          have hw2 : IntKind.i64.wrap (2 * (s2.size : Int)) = 2 * (s2.size : Int) := IntWalk.i64_in _ (by omega)
          have hw3 : IntKind.i64.wrap Q = Q := IntWalk.i64_in _ (by omega)
          have hw4 : IntKind.i64.wrap (Q + 2) = Q + 2 := IntWalk.i64_in _ (by omega)
          have hd1 : decide ((np : Int) * 64 < (s2.size : Int)) = false := decide_eq_false (by omega)
          have hd2 : decide (Q + 2 ≤ (np : Int)) = false := decide_eq_false (by omega)
          clear hc2 ha2 hlen k1 k2 hpc hnp hQ2
          go_wp2_with fail
          refine HP.out.mono ?_
          rintro e w6 ⟨v, rfl, hv, hb6⟩
          obtain ⟨aV, cV, rfl⟩ := own_slice hv
          have HR2 := hide (HR2.out.bl hb6)
          have HL := hide (rst_len HR2.out (r := r2) (d := d) (t := t2) (by simp) HT2.out)
          clear hv HP hb6
          go_wp2_with fail
          refine HL.out.mono ?_
          rintro e w7 ⟨rfl, hw7⟩
          subst hw7
          go_wp2_with fail
          refine HL.out.mono ?_
          rintro e w8 ⟨rfl, hw8⟩
          subst hw8
          clear HL
          go_wp2
          refine ⟨?_, by first | (simp [intOf]; done) | (simp [intOf]; omega)⟩
          exact ⟨k + 1, s2, r2, t2, rfl, rfl, by go_num, by omega, by push_cast; omega, HT2, HR2⟩
        · obtain rfl : k = l1.length := by omega
          go_wp2_with fail
          refine (awake3_any _).mono ?_
          rintro e w8 ⟨rfl, hb8⟩
          have hb := bl_trans HR.out.bel hb8
          go_wp2
          go_ret
          exact ⟨rfl, hb⟩
  · have g0 : decide (40 < (len0 : Int)) = true := decide_eq_true (by omega)
    go_enter Try.func8, Try.ntmps8
    go_wp2_with fail
    refine (awake3_any _).mono ?_
    rintro e w13 ⟨rfl, hb13⟩
    go_wp2
    go_ret
    exact ⟨rfl, hb13⟩

set_option maxRecDepth 100000 in
theorem lifted (os : Os) (started : os.Started) (H : Type) (enc : TypeId × Value → H) :
    ReturnsInHanded {} Try.checked os 8 .any (Rows.ropeFewSpec.pre6 enc Try.prog Try.f8 Rows.ropeFewRow.domain false) (Rows.ropeFewSpec.post enc Try.prog Try.f8 false true false false) := by
  refine returnsInHanded_of_change (C := Try.checked) own started (by kernel_rfl) Try.func8
    (ChangeSpec.witness6 (enc := enc) (C := Try.checked) false ⟨#[], #[.slice none 0 0, .slice none 0 0], []⟩ 8 (by kernel_rfl) (by kernel_rfl) (by kernel_rfl) (by kernel_rfl)) ?_
  intro W base args ds gs before hval0 hW hcnd _
  have hval : ∀ (j : Nat) t v, Try.f8.params[j]? = some t → args[j]? = some v → Value.okWide Try.prog W .any base t v := hval0
  have hW' := hW
  obtain ⟨p, q, hA0, hV, rfl, hfz, hnd⟩ := hW
  have hA : DataW.TrodAll enc Try.prog W 0 (fun _ => true) true Try.f8.params.toList args.toList ds p := hA0
  rw [Try.params8] at hA hval
  obtain ⟨v0, vs0, d0, ds0, p0, q0, hargs, rfl, rfl, h0, r0⟩ := trodAll_cons hA
  obtain ⟨v1, vs1, d1, ds1, p1, q1, rfl, rfl, rfl, h1, r1⟩ := trodAll_cons r0
  obtain ⟨rfl, rfl, rfl⟩ := trodAll_nil r1
  obtain rfl : args = #[v0, v1] := by cases args; simp_all
  obtain ⟨rfl, rfl⟩ := trodVars_none hV
  have k0 := h0
  have lt0 : ∀ x ∈ p0, x.block < W.heap.size := by obtain ⟨m, hm⟩ := k0; exact DataW.trod_lt m _ _ _ hm
  obtain ⟨a0, len0, cap0, rfl⟩ := okWide_slice Try.underlying22 (hval 0 22 v0 rfl rfl)
  obtain ⟨z0, w0⟩ : ∃ zs, IsInts .u32 W a0 len0 cap0 zs := by
    obtain ⟨fuel, hf⟩ := h0
    rcases open_ints Try.underlying22 Try.underlying54 (by kernel_rfl) hf with ⟨hcs, _⟩ | ⟨x, l, c, zs, hcs, _, hl, hm, hz, _, hcell, hwz⟩
    · simp [Value.cells] at hcs
      obtain ⟨rfl, rfl, rfl⟩ := hcs
      exact ⟨[], .inl ⟨rfl, rfl, rfl, rfl⟩⟩
    · simp [Value.cells] at hcs
      obtain ⟨rfl, rfl, rfl⟩ := hcs
      exact ⟨zs, .inr ⟨_, rfl, hl, hm, by simpa using hz, hcell, hwz⟩⟩
  have k1 := h1
  have lt1 : ∀ x ∈ p1, x.block < W.heap.size := by obtain ⟨m, hm⟩ := k1; exact DataW.trod_lt m _ _ _ hm
  obtain ⟨l1, w1, b1⟩ := open_dees (hval 1 23 v1 rfl rfl) h1
  clear hA0 hval0
  refine (walk a0 len0 cap0 z0 v1 l1 W w0 w1 b1).mono fun e W' ⟨he, bel⟩ => ?_
  subst he
  exact ⟨_, rfl, _, _, _, [], _, [], hW', trodAll_mk1 (shut_bool Try.underlying4 _), (trodAll_cons_mk (Below.trod laidOut (by kernel_rfl) (of_decide_eq_true (by kernel_rfl)) k0 bel lt0) (trodAll_cons_mk (Below.trod laidOut (by kernel_rfl) (of_decide_eq_true (by kernel_rfl)) k1 bel lt1) trodAll_mk0)), rfl, bel.frame _, fun h => by cases h⟩

theorem over : Rows.ropeFewRow.holds Try.pinned (OpenSpec.ofChange Rows.ropeFewSpec) :=
  OpenClaim.holds_of_wide 8 Try.f8 rfl rfl rfl rfl rfl rfl rfl ⟨rfl, rfl, rfl, rfl, rfl⟩ rfl rfl rfl rfl rfl (by kernel_rfl) Try.func8 (by kernel_rfl)
    (of_decide_eq_true (by kernel_rfl)) (by unfold Func.isWrapper; first | (rw [if_pos (by decide +kernel)]; kernel_rfl) | (rw [if_neg (by decide +kernel)]; exact ⟨rfl, rfl⟩))
    (fun os started H enc _ => lifted os started H enc)

theorem proved : Rows.RopeFewSaid := over
end Go.Proofs.Ytidfpnedbcaicaa.ropeFew
