/- Contract: what a format is told as, by the reference (gimletref18.Show). Condition: a format that is not too long. -/
import Derived.Test.YtbphckblbbbakaaDoorRfG
import Derived.Test.YtbphckblbbbakaaDoorRfA
namespace Go.Proofs.YtbphckblbbbakaaDoor
open Go.ChangeShapes Go.WideShapes Go.ChangeAt Go.RowKit
open Go.Lib (decDigits)
attribute [local go_sem ↓] Go.wp_at_zero Go.wp_at_succ
set_option maxRecDepth 100000
set_option linter.unusedVariables false
attribute [local go_sem] later_cell later_frozen
theorem rname_e (c : Int) (N : ByteArray) (h : mkB (nmL c) = N) (w : World) : Calls Tryd.prog 25 #[.int .i64 c] w fun e w' => e = .returned (.string N) ∧ w = w' := h ▸ rname_any c w
set_option maxHeartbeats 16000000 in
theorem rshow_any (v : Value) (l : List Fm) (w : World) (h : FmAt w v l) (hl : l.length ≤ 1000) (hz : SzL 1000 l) : Calls Tryd.prog 10 #[v] w (ShPost w l) := by
  obtain ⟨vA, vc, rfl⟩ := fmat_len h
  have H := hide h
  have HM := hide (rmayL_any _ l w h hl)
  clear h
  unfold ShPost
  rcases hm : mayL l with _ | _
  · rw [hm] at HM
    rw [if_neg (by simp), if_neg (by simp)]
    go_enter Tryd.func10, Tryd.ntmps10
    go_wp2_with fail
    refine HM.out.mono ?_
    rintro e w1 ⟨rfl, hb1⟩
    go_wp2
    go_ret2
    exact ⟨rfl, hb1⟩
  rw [hm] at HM
  rw [if_pos rfl, if_pos rfl]
  have HN := hide (fun k hk => may_in hm k hk)
  have HSZ := hide hz
  clear hm hz
  go_enter Tryd.func10, Tryd.ntmps10
  go_wp2_with fail
  refine HM.out.mono ?_
  rintro e w1 ⟨rfl, hb1⟩
  have HB1 := hide hb1
  clear hb1 HM
  go_wp2
  go_loopw [4, 5] (fun s i wr => ∃ (k : Nat) (out : List UInt8) (S : ByteArray), i = .int .i64 k ∧ s = .string S ∧ k ≤ l.length ∧ out.length ≤ 5000 * k ∧ Hid (shL (l.take k) = out) ∧ Hid (S = mkB out) ∧ S.size = out.length ∧ Hid (Below w.heap.size w wr)) (fun _ i _ => l.length - (intOf i).toNat)
  case atStart => exact ⟨0, [], ⟨#[]⟩, rfl, rfl, Nat.zero_le _, Nat.le_refl _, hide rfl, hide rfl, rfl, HB1⟩
  case round =>
    obtain ⟨k, out, S, rfl, rfl, hk, ho, HJ, HS, hsz, HBL⟩ := hrel
    by_cases hlt : k < l.length
    · obtain ⟨b1, o1, c1, hv1, hc1, hm1, hlb1, hcell⟩ := fmat_some (fmat_below H.out HBL.out) (by omega)
      injection hv1 with hv1 _ hv1c
      subst hv1 hv1c
      unfold maxLen at hm1
      obtain ⟨x0, x1, x2, x3, x4⟩ := hcell k hlt
      have hn0 := HN.out k hlt
      have hsn := shL_snoc l k hlt
      obtain ⟨hz1, hz2⟩ := HSZ.out l[k] (List.getElem_mem hlt)
      clear hcell
      obtain ⟨d, hd⟩ : ∃ d, l[k] = d := ⟨_, rfl⟩
      rw [hd] at x0 x1 x2 x3 x4 hn0 hsn hz1 hz2
      rw [HJ.out] at hsn
      have hn9 := may_n9 hn0
      have hkk := may_k hn0
      have hle := shF_le d 1000 hn9.2 hz1 hz2
      have hsF : shF d = if d.k = 0 then guardF inT (bytesOf d.th) else [36, 123] ++ decF d.n.toNat ++ insF d ++ [125] := rfl
      have hiF : insF d = if d.k = 2 then [58, 47] ++ nmL d.c else if d.k = 3 then [58, 43] ++ guardF inB (bytesOf d.th) else if d.k = 5 then [58, 63] ++ guardF inB (bytesOf d.th) ++ 58 :: guardF inB (bytesOf d.el) else if d.k = 4 then [58, 45] ++ guardF inB (bytesOf d.el) else [] := rfl
      obtain ⟨q, hq⟩ : ∃ q, shF d = q := ⟨_, rfl⟩
      rw [hq] at hsn hle hsF
      obtain ⟨dk, dn, dc, dt, de⟩ := d
      dsimp only at x0 x1 x2 x3 x4 hn9 hz1 hz2 hsF hiF hkk
      obtain ⟨m, rfl⟩ : ∃ m : Nat, dn = m := ⟨dn.toNat, by omega⟩
      have hm9 : m ≤ 9999 := by omega
      rw [Int.toNat_natCast, dec_dec m hm9] at hsF
      obtain ⟨I, hI⟩ : ∃ I, itoaS m = I := ⟨_, rfl⟩
      have HDG := hide (fun W => digits_any m (by omega) W)
      rw [hI] at HDG
      have hiz : I.size ≤ 6 := by rw [← hI]; exact itoa_size m (by omega)
      have hI2 : I = mkB (decDigits m) := hI.symm
      obtain ⟨T, hT⟩ : ∃ T, mkB (guardF inB (bytesOf dt)) = T := ⟨_, rfl⟩
      obtain ⟨U, hU⟩ : ∃ U, mkB (guardF inB (bytesOf de)) = U := ⟨_, rfl⟩
      obtain ⟨G, hG⟩ : ∃ G, mkB (guardF inT (bytesOf dt)) = G := ⟨_, rfl⟩
      obtain ⟨N, hN⟩ : ∃ N, mkB (nmL dc) = N := ⟨_, rfl⟩
      have HT := hide (fun W => rguard_any dt ⟨#[36, 125, 92, 47, 58]⟩ (by decide) T hT W (by omega) (by decide))
      have HU := hide (fun W => rguard_any de ⟨#[36, 125, 92, 47, 58]⟩ (by decide) U hU W (by omega) (by decide))
      have HG := hide (fun W => rguard_any dt ⟨#[36, 125, 92, 47]⟩ (by decide) G hG W (by omega) (by decide))
      have HNM := hide (fun W => rname_e dc N hN W)
      have et : (bytesOf dt).length = dt.size := Array.length_toList
      have ee : (bytesOf de).length = de.size := Array.length_toList
      have tz : T.size ≤ 2000 := by rw [← hT, size_mk]; have := guard_len inB (bytesOf dt); omega
      have uz : U.size ≤ 2000 := by rw [← hU, size_mk]; have := guard_len inB (bytesOf de); omega
      have gz : G.size ≤ 2000 := by rw [← hG, size_mk]; have := guard_len inT (bytesOf dt); omega
      have nz : N.size ≤ 100 := by rw [← hN]; exact nm_le dc
      have Sz : S.size ≤ 5000000 := by omega
      have gl : decide ((k : Int) < (l.length : Int)) = true := decide_eq_true (by omega)
      have gl' : decide (k < l.length) = true := decide_eq_true hlt
      have e5 : IntKind.i64.wrap ((k : Int) + 1) = (k : Int) + 1 := by rw [IntKind.wrap_i64]; omega
      have hba := bl_alloc (bl_refl wr) (.cells #[.int .i64 dk, .int .i64 m, .int .i64 dc, .string dt, .string de] 41)
      have HBA := hide (bl_trans HBL.out hba)
      have f0 : (wr.alloc (.cells #[.int .i64 dk, .int .i64 m, .int .i64 dc, .string dt, .string de] 41)).cell? ⟨wr.heap.size, 0, none⟩ = some (.int .i64 dk) := cells_lit wr _ _ 0 _ rfl
      have f1 : (wr.alloc (.cells #[.int .i64 dk, .int .i64 m, .int .i64 dc, .string dt, .string de] 41)).cell? ⟨wr.heap.size, 1, none⟩ = some (.int .i64 m) := cells_lit wr _ _ 1 _ rfl
      have f2 : (wr.alloc (.cells #[.int .i64 dk, .int .i64 m, .int .i64 dc, .string dt, .string de] 41)).cell? ⟨wr.heap.size, 2, none⟩ = some (.int .i64 dc) := cells_lit wr _ _ 2 _ rfl
      have f3 : (wr.alloc (.cells #[.int .i64 dk, .int .i64 m, .int .i64 dc, .string dt, .string de] 41)).cell? ⟨wr.heap.size, 3, none⟩ = some (.string dt) := cells_lit wr _ _ 3 _ rfl
      have f4 : (wr.alloc (.cells #[.int .i64 dk, .int .i64 m, .int .i64 dc, .string dt, .string de] 41)).cell? ⟨wr.heap.size, 4, none⟩ = some (.string de) := cells_lit wr _ _ 4 _ rfl
      have hol : (out ++ q).length ≤ 5000 * (k + 1) := by rw [List.length_append]; omega
      have NEXT : ∀ W, Below w.heap.size w W → ∃ (k2 : Nat) (out2 : List UInt8) (S2 : ByteArray), Value.int .i64 ((k : Int) + 1) = .int .i64 k2 ∧ Value.string (mkB (out ++ q)) = .string S2 ∧ k2 ≤ l.length ∧ out2.length ≤ 5000 * k2 ∧ Hid (shL (l.take k2) = out2) ∧ Hid (S2 = mkB out2) ∧ S2.size = out2.length ∧ Hid (Below w.heap.size w W) := fun W hb =>
        ⟨k + 1, out ++ q, mkB (out ++ q), by go_num, rfl, by omega, hol, hide hsn, hide rfl, size_mk _, hide hb⟩
      have HNEXT := hide NEXT
      have A1 : (⟨#[36, 123]⟩ : ByteArray).size = 2 := rfl
      have A2 : (⟨#[125]⟩ : ByteArray).size = 1 := rfl
      have B1 : (⟨#[36, 123]⟩ : ByteArray) = mkB [36, 123] := rfl
      have B2 : (⟨#[125]⟩ : ByteArray) = mkB [125] := rfl
      have hHz : ((⟨#[36, 123]⟩ : ByteArray) ++ I).size = 2 + I.size := ByteArray.size_append
      rcases hkk with h | h | h | h | h | h
      · have Q0 : (S ++ G).size = S.size + G.size := by rw [ByteArray.size_append]
        have EQ : S ++ G = mkB (out ++ q) := by
          rw [if_pos h] at hsF
          rw [HS.out, ← hG, mk_app, hsF]
        have HEQ := hide EQ
        have k0 : (dk == 0) = true := beq_iff_eq.2 h
        clear EQ hd hsn hq hle hsF hiF hI hI2 hT hU hG hN et ee hol NEXT hba HS HJ h B1 B2
        go_wp2_with fail
        refine (HDG.out _).mono ?_
        rintro e w2 ⟨rfl, hb2⟩
        have HB2 := hide (bl_trans HBA.out hb2)
        have f0 := cell_later hb2 f0
        have f2 := cell_later hb2 f2
        have f3 := cell_later hb2 f3
        have f4 := cell_later hb2 f4
        have hlt2 : wr.heap.size < w2.heap.size := World.block_lt_of_cell? _ _ f0
        clear hb2
        go_wp2
        refine wp_region_later (by kernel_rfl) (by kernel_rfl) ?_
        repeat (go_big_quiet_step (first
          | (go_at_call_of 24 (Value.string dt); exact later_call (HT.out _))
          | (go_at_call_of 24 (Value.string de); exact later_call (HU.out _))
          | exact rfl))
        refine wpQuiet_nil ?_
        rintro w9 ⟨⟨_, hb9⟩, rfl⟩
        have HB9 := hide (bl_trans HB2.out hb9)
        have f0 := cell_later hb9 f0
        have f2 := cell_later hb9 f2
        have f3 := cell_later hb9 f3
        have f4 := cell_later hb9 f4
        clear hb9
        go_wp2_with fail
        refine (HG.out _).mono ?_
        rintro e w10 ⟨rfl, hb10⟩
        have HB10 := hide (bl_trans HB9.out hb10)
        clear hb10
        go_wp2
        rw [HEQ.out]
        refine ⟨?_, by first | (simp [intOf]; done) | (simp [intOf]; omega)⟩
        first
          | exact HNEXT.out _ HB10.out
          | ((repeat apply Exists.intro); exact ⟨HNEXT.out _ HB10.out, rfl⟩)
      · have L0 : (⟨#[125]⟩ : ByteArray).size = 1 := rfl
        have Q0 : (S ++ ((⟨#[36, 123]⟩ : ByteArray) ++ I)).size = S.size + (2 + I.size) := by rw [ByteArray.size_append]; rw [hHz]
        have Q1 : (S ++ ((⟨#[36, 123]⟩ : ByteArray) ++ I) ++ (⟨#[125]⟩ : ByteArray)).size = S.size + (2 + I.size) + 1 := by rw [ByteArray.size_append, Q0]; rfl
        have EQ : S ++ ((⟨#[36, 123]⟩ : ByteArray) ++ I) ++ (⟨#[125]⟩ : ByteArray) = mkB (out ++ q) := by
          rw [if_neg (by omega), hiF, if_neg (by omega), if_neg (by omega), if_neg (by omega), if_neg (by omega)] at hsF
          rw [HS.out, hI2, B1, B2]
          simp only [mk_app]
          rw [hsF]
          congr 1
          simp only [List.append_assoc, List.cons_append, List.nil_append, List.append_nil]
        have HEQ := hide EQ
        have k0 : (dk == 0) = false := beq_eq_false_iff_ne.2 (by omega)
        have k1 : (dk == 1) = true := beq_iff_eq.2 h
        clear EQ hd hsn hq hle hsF hiF hI hI2 hT hU hG hN et ee hol NEXT hba HS HJ h B1 B2
        go_wp2_with fail
        refine (HDG.out _).mono ?_
        rintro e w2 ⟨rfl, hb2⟩
        have HB2 := hide (bl_trans HBA.out hb2)
        have f0 := cell_later hb2 f0
        have f2 := cell_later hb2 f2
        have f3 := cell_later hb2 f3
        have f4 := cell_later hb2 f4
        have hlt2 : wr.heap.size < w2.heap.size := World.block_lt_of_cell? _ _ f0
        clear hb2
        go_wp2
        refine wp_region_later (by kernel_rfl) (by kernel_rfl) ?_
        repeat (go_big_quiet_step (first
          | (go_at_call_of 24 (Value.string dt); exact later_call (HT.out _))
          | (go_at_call_of 24 (Value.string de); exact later_call (HU.out _))
          | exact rfl))
        refine wpQuiet_nil ?_
        rintro w9 ⟨⟨_, hb9⟩, rfl⟩
        have HB9 := hide (bl_trans HB2.out hb9)
        have f0 := cell_later hb9 f0
        have f2 := cell_later hb9 f2
        have f3 := cell_later hb9 f3
        have f4 := cell_later hb9 f4
        clear hb9
        go_wp2
        rw [HEQ.out]
        refine ⟨?_, by first | (simp [intOf]; done) | (simp [intOf]; omega)⟩
        first
          | exact HNEXT.out _ HB9.out
          | ((repeat apply Exists.intro); exact ⟨HNEXT.out _ HB9.out, rfl⟩)
      · have L0 : (⟨#[125]⟩ : ByteArray).size = 1 := rfl
        have L1 : (⟨#[58, 47]⟩ : ByteArray).size = 2 := rfl
        have Q0 : (S ++ ((⟨#[36, 123]⟩ : ByteArray) ++ I)).size = S.size + (2 + I.size) := by rw [ByteArray.size_append]; rw [hHz]
        have Q1 : (S ++ ((⟨#[36, 123]⟩ : ByteArray) ++ I) ++ (⟨#[58, 47]⟩ : ByteArray)).size = S.size + (2 + I.size) + 2 := by rw [ByteArray.size_append, Q0]; rfl
        have Q2 : (S ++ ((⟨#[36, 123]⟩ : ByteArray) ++ I) ++ (⟨#[58, 47]⟩ : ByteArray) ++ N).size = S.size + (2 + I.size) + 2 + N.size := by rw [ByteArray.size_append, Q1]
        have Q3 : (S ++ ((⟨#[36, 123]⟩ : ByteArray) ++ I) ++ (⟨#[58, 47]⟩ : ByteArray) ++ N ++ (⟨#[125]⟩ : ByteArray)).size = S.size + (2 + I.size) + 2 + N.size + 1 := by rw [ByteArray.size_append, Q2]; rfl
        have EQ : S ++ ((⟨#[36, 123]⟩ : ByteArray) ++ I) ++ (⟨#[58, 47]⟩ : ByteArray) ++ N ++ (⟨#[125]⟩ : ByteArray) = mkB (out ++ q) := by
          rw [if_neg (by omega), hiF, if_pos h] at hsF
          rw [HS.out, hI2, B1, show (⟨#[58, 47]⟩ : ByteArray) = mkB [58, 47] from rfl, B2, ← hN]
          simp only [mk_app]
          rw [hsF]
          congr 1
          simp only [List.append_assoc, List.cons_append, List.nil_append]
        have HEQ := hide EQ
        have k0 : (dk == 0) = false := beq_eq_false_iff_ne.2 (by omega)
        have k1 : (dk == 1) = false := beq_eq_false_iff_ne.2 (by omega)
        have k2 : (dk == 2) = true := beq_iff_eq.2 h
        clear EQ hd hsn hq hle hsF hiF hI hI2 hT hU hG hN et ee hol NEXT hba HS HJ h B1 B2
        go_wp2_with fail
        refine (HDG.out _).mono ?_
        rintro e w2 ⟨rfl, hb2⟩
        have HB2 := hide (bl_trans HBA.out hb2)
        have f0 := cell_later hb2 f0
        have f2 := cell_later hb2 f2
        have f3 := cell_later hb2 f3
        have f4 := cell_later hb2 f4
        have hlt2 : wr.heap.size < w2.heap.size := World.block_lt_of_cell? _ _ f0
        clear hb2
        go_wp2
        refine wp_region_later (by kernel_rfl) (by kernel_rfl) ?_
        repeat (go_big_quiet_step (first
          | (go_at_call_of 24 (Value.string dt); exact later_call (HT.out _))
          | (go_at_call_of 24 (Value.string de); exact later_call (HU.out _))
          | exact rfl))
        refine wpQuiet_nil ?_
        rintro w9 ⟨⟨_, hb9⟩, rfl⟩
        have HB9 := hide (bl_trans HB2.out hb9)
        have f0 := cell_later hb9 f0
        have f2 := cell_later hb9 f2
        have f3 := cell_later hb9 f3
        have f4 := cell_later hb9 f4
        clear hb9
        go_wp2_with fail
        refine (HNM.out _).mono ?_
        rintro e w10 ⟨rfl, rfl⟩
        go_wp2
        rw [HEQ.out]
        refine ⟨?_, by first | (simp [intOf]; done) | (simp [intOf]; omega)⟩
        first
          | exact HNEXT.out _ HB9.out
          | ((repeat apply Exists.intro); exact ⟨HNEXT.out _ HB9.out, rfl⟩)
      · have L0 : (⟨#[125]⟩ : ByteArray).size = 1 := rfl
        have L1 : (⟨#[58, 43]⟩ : ByteArray).size = 2 := rfl
        have Q0 : (S ++ ((⟨#[36, 123]⟩ : ByteArray) ++ I)).size = S.size + (2 + I.size) := by rw [ByteArray.size_append]; rw [hHz]
        have Q1 : (S ++ ((⟨#[36, 123]⟩ : ByteArray) ++ I) ++ (⟨#[58, 43]⟩ : ByteArray)).size = S.size + (2 + I.size) + 2 := by rw [ByteArray.size_append, Q0]; rfl
        have Q2 : (S ++ ((⟨#[36, 123]⟩ : ByteArray) ++ I) ++ (⟨#[58, 43]⟩ : ByteArray) ++ T).size = S.size + (2 + I.size) + 2 + T.size := by rw [ByteArray.size_append, Q1]
        have Q3 : (S ++ ((⟨#[36, 123]⟩ : ByteArray) ++ I) ++ (⟨#[58, 43]⟩ : ByteArray) ++ T ++ (⟨#[125]⟩ : ByteArray)).size = S.size + (2 + I.size) + 2 + T.size + 1 := by rw [ByteArray.size_append, Q2]; rfl
        have EQ : S ++ ((⟨#[36, 123]⟩ : ByteArray) ++ I) ++ (⟨#[58, 43]⟩ : ByteArray) ++ T ++ (⟨#[125]⟩ : ByteArray) = mkB (out ++ q) := by
          rw [if_neg (by omega), hiF, if_neg (by omega), if_pos h] at hsF
          rw [HS.out, hI2, B1, show (⟨#[58, 43]⟩ : ByteArray) = mkB [58, 43] from rfl, B2, ← hT]
          simp only [mk_app]
          rw [hsF]
          congr 1
          simp only [List.append_assoc, List.cons_append, List.nil_append]
        have HEQ := hide EQ
        have k0 : (dk == 0) = false := beq_eq_false_iff_ne.2 (by omega)
        have k1 : (dk == 1) = false := beq_eq_false_iff_ne.2 (by omega)
        have k2 : (dk == 2) = false := beq_eq_false_iff_ne.2 (by omega)
        have k3 : (dk == 3) = true := beq_iff_eq.2 h
        clear EQ hd hsn hq hle hsF hiF hI hI2 hT hU hG hN et ee hol NEXT hba HS HJ h B1 B2
        go_wp2_with fail
        refine (HDG.out _).mono ?_
        rintro e w2 ⟨rfl, hb2⟩
        have HB2 := hide (bl_trans HBA.out hb2)
        have f0 := cell_later hb2 f0
        have f2 := cell_later hb2 f2
        have f3 := cell_later hb2 f3
        have f4 := cell_later hb2 f4
        have hlt2 : wr.heap.size < w2.heap.size := World.block_lt_of_cell? _ _ f0
        clear hb2
        go_wp2
        refine wp_region_later (by kernel_rfl) (by kernel_rfl) ?_
        repeat (go_big_quiet_step (first
          | (go_at_call_of 24 (Value.string dt); exact later_call (HT.out _))
          | (go_at_call_of 24 (Value.string de); exact later_call (HU.out _))
          | exact rfl))
        refine wpQuiet_nil ?_
        rintro w9 ⟨⟨_, hb9⟩, rfl⟩
        have HB9 := hide (bl_trans HB2.out hb9)
        have f0 := cell_later hb9 f0
        have f2 := cell_later hb9 f2
        have f3 := cell_later hb9 f3
        have f4 := cell_later hb9 f4
        clear hb9
        go_wp2
        rw [HEQ.out]
        refine ⟨?_, by first | (simp [intOf]; done) | (simp [intOf]; omega)⟩
        first
          | exact HNEXT.out _ HB9.out
          | ((repeat apply Exists.intro); exact ⟨HNEXT.out _ HB9.out, rfl⟩)
      · have L0 : (⟨#[125]⟩ : ByteArray).size = 1 := rfl
        have L1 : (⟨#[58, 45]⟩ : ByteArray).size = 2 := rfl
        have Q0 : (S ++ ((⟨#[36, 123]⟩ : ByteArray) ++ I)).size = S.size + (2 + I.size) := by rw [ByteArray.size_append]; rw [hHz]
        have Q1 : (S ++ ((⟨#[36, 123]⟩ : ByteArray) ++ I) ++ (⟨#[58, 45]⟩ : ByteArray)).size = S.size + (2 + I.size) + 2 := by rw [ByteArray.size_append, Q0]; rfl
        have Q2 : (S ++ ((⟨#[36, 123]⟩ : ByteArray) ++ I) ++ (⟨#[58, 45]⟩ : ByteArray) ++ U).size = S.size + (2 + I.size) + 2 + U.size := by rw [ByteArray.size_append, Q1]
        have Q3 : (S ++ ((⟨#[36, 123]⟩ : ByteArray) ++ I) ++ (⟨#[58, 45]⟩ : ByteArray) ++ U ++ (⟨#[125]⟩ : ByteArray)).size = S.size + (2 + I.size) + 2 + U.size + 1 := by rw [ByteArray.size_append, Q2]; rfl
        have EQ : S ++ ((⟨#[36, 123]⟩ : ByteArray) ++ I) ++ (⟨#[58, 45]⟩ : ByteArray) ++ U ++ (⟨#[125]⟩ : ByteArray) = mkB (out ++ q) := by
          rw [if_neg (by omega), hiF, if_neg (by omega), if_neg (by omega), if_neg (by omega), if_pos h] at hsF
          rw [HS.out, hI2, B1, show (⟨#[58, 45]⟩ : ByteArray) = mkB [58, 45] from rfl, B2, ← hU]
          simp only [mk_app]
          rw [hsF]
          congr 1
          simp only [List.append_assoc, List.cons_append, List.nil_append]
        have HEQ := hide EQ
        have k0 : (dk == 0) = false := beq_eq_false_iff_ne.2 (by omega)
        have k1 : (dk == 1) = false := beq_eq_false_iff_ne.2 (by omega)
        have k2 : (dk == 2) = false := beq_eq_false_iff_ne.2 (by omega)
        have k3 : (dk == 3) = false := beq_eq_false_iff_ne.2 (by omega)
        have k4 : (dk == 4) = true := beq_iff_eq.2 h
        clear EQ hd hsn hq hle hsF hiF hI hI2 hT hU hG hN et ee hol NEXT hba HS HJ h B1 B2
        go_wp2_with fail
        refine (HDG.out _).mono ?_
        rintro e w2 ⟨rfl, hb2⟩
        have HB2 := hide (bl_trans HBA.out hb2)
        have f0 := cell_later hb2 f0
        have f2 := cell_later hb2 f2
        have f3 := cell_later hb2 f3
        have f4 := cell_later hb2 f4
        have hlt2 : wr.heap.size < w2.heap.size := World.block_lt_of_cell? _ _ f0
        clear hb2
        go_wp2
        refine wp_region_later (by kernel_rfl) (by kernel_rfl) ?_
        repeat (go_big_quiet_step (first
          | (go_at_call_of 24 (Value.string dt); exact later_call (HT.out _))
          | (go_at_call_of 24 (Value.string de); exact later_call (HU.out _))
          | exact rfl))
        refine wpQuiet_nil ?_
        rintro w9 ⟨⟨_, hb9⟩, rfl⟩
        have HB9 := hide (bl_trans HB2.out hb9)
        have f0 := cell_later hb9 f0
        have f2 := cell_later hb9 f2
        have f3 := cell_later hb9 f3
        have f4 := cell_later hb9 f4
        clear hb9
        go_wp2
        rw [HEQ.out]
        refine ⟨?_, by first | (simp [intOf]; done) | (simp [intOf]; omega)⟩
        first
          | exact HNEXT.out _ HB9.out
          | ((repeat apply Exists.intro); exact ⟨HNEXT.out _ HB9.out, rfl⟩)
      · have L0 : (⟨#[125]⟩ : ByteArray).size = 1 := rfl
        have L1 : (⟨#[58, 63]⟩ : ByteArray).size = 2 := rfl
        have L2 : (⟨#[58]⟩ : ByteArray).size = 1 := rfl
        have Q0 : (S ++ ((⟨#[36, 123]⟩ : ByteArray) ++ I)).size = S.size + (2 + I.size) := by rw [ByteArray.size_append]; rw [hHz]
        have Q1 : (S ++ ((⟨#[36, 123]⟩ : ByteArray) ++ I) ++ (⟨#[58, 63]⟩ : ByteArray)).size = S.size + (2 + I.size) + 2 := by rw [ByteArray.size_append, Q0]; rfl
        have Q2 : (S ++ ((⟨#[36, 123]⟩ : ByteArray) ++ I) ++ (⟨#[58, 63]⟩ : ByteArray) ++ T).size = S.size + (2 + I.size) + 2 + T.size := by rw [ByteArray.size_append, Q1]
        have Q3 : (S ++ ((⟨#[36, 123]⟩ : ByteArray) ++ I) ++ (⟨#[58, 63]⟩ : ByteArray) ++ T ++ (⟨#[58]⟩ : ByteArray)).size = S.size + (2 + I.size) + 2 + T.size + 1 := by rw [ByteArray.size_append, Q2]; rfl
        have Q4 : (S ++ ((⟨#[36, 123]⟩ : ByteArray) ++ I) ++ (⟨#[58, 63]⟩ : ByteArray) ++ T ++ (⟨#[58]⟩ : ByteArray) ++ U).size = S.size + (2 + I.size) + 2 + T.size + 1 + U.size := by rw [ByteArray.size_append, Q3]
        have Q5 : (S ++ ((⟨#[36, 123]⟩ : ByteArray) ++ I) ++ (⟨#[58, 63]⟩ : ByteArray) ++ T ++ (⟨#[58]⟩ : ByteArray) ++ U ++ (⟨#[125]⟩ : ByteArray)).size = S.size + (2 + I.size) + 2 + T.size + 1 + U.size + 1 := by rw [ByteArray.size_append, Q4]; rfl
        have EQ : S ++ ((⟨#[36, 123]⟩ : ByteArray) ++ I) ++ (⟨#[58, 63]⟩ : ByteArray) ++ T ++ (⟨#[58]⟩ : ByteArray) ++ U ++ (⟨#[125]⟩ : ByteArray) = mkB (out ++ q) := by
          rw [if_neg (by omega), hiF, if_neg (by omega), if_neg (by omega), if_pos h] at hsF
          rw [HS.out, hI2, B1, show (⟨#[58, 63]⟩ : ByteArray) = mkB [58, 63] from rfl, show (⟨#[58]⟩ : ByteArray) = mkB [58] from rfl, B2, ← hT, ← hU]
          simp only [mk_app]
          rw [hsF]
          congr 1
          simp only [List.append_assoc, List.cons_append, List.nil_append]
        have HEQ := hide EQ
        have k0 : (dk == 0) = false := beq_eq_false_iff_ne.2 (by omega)
        have k1 : (dk == 1) = false := beq_eq_false_iff_ne.2 (by omega)
        have k2 : (dk == 2) = false := beq_eq_false_iff_ne.2 (by omega)
        have k3 : (dk == 3) = false := beq_eq_false_iff_ne.2 (by omega)
        have k4 : (dk == 4) = false := beq_eq_false_iff_ne.2 (by omega)
        clear EQ hd hsn hq hle hsF hiF hI hI2 hT hU hG hN et ee hol NEXT hba HS HJ h B1 B2
        go_wp2_with fail
        refine (HDG.out _).mono ?_
        rintro e w2 ⟨rfl, hb2⟩
        have HB2 := hide (bl_trans HBA.out hb2)
        have f0 := cell_later hb2 f0
        have f2 := cell_later hb2 f2
        have f3 := cell_later hb2 f3
        have f4 := cell_later hb2 f4
        have hlt2 : wr.heap.size < w2.heap.size := World.block_lt_of_cell? _ _ f0
        clear hb2
        go_wp2
        refine wp_region_later (by kernel_rfl) (by kernel_rfl) ?_
        repeat (go_big_quiet_step (first
          | (go_at_call_of 24 (Value.string dt); exact later_call (HT.out _))
          | (go_at_call_of 24 (Value.string de); exact later_call (HU.out _))
          | exact rfl))
        refine wpQuiet_nil ?_
        rintro w9 ⟨⟨_, hb9⟩, rfl⟩
        have HB9 := hide (bl_trans HB2.out hb9)
        have f0 := cell_later hb9 f0
        have f2 := cell_later hb9 f2
        have f3 := cell_later hb9 f3
        have f4 := cell_later hb9 f4
        clear hb9
        go_wp2
        rw [HEQ.out]
        refine ⟨?_, by first | (simp [intOf]; done) | (simp [intOf]; omega)⟩
        first
          | exact HNEXT.out _ HB9.out
          | ((repeat apply Exists.intro); exact ⟨HNEXT.out _ HB9.out, rfl⟩)
    · obtain rfl : k = l.length := by omega
      have hj := HJ.out
      rw [List.take_length] at hj
      have HE := hide (show S = mkB (shL l) by rw [hj]; exact HS.out)
      have gl : decide ((l.length : Int) < (l.length : Int)) = false := by simp
      have gl' : decide (l.length < l.length) = false := by simp
      clear hj HJ hlt
      go_wp2
      go_ret2
      exact ⟨by rw [HE.out]; rfl, HBL.out⟩
end Go.Proofs.YtbphckblbbbakaaDoor
