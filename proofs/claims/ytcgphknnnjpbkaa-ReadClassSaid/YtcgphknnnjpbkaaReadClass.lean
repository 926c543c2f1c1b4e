/- A class of rows of small letters and digits is their union, whichever way round they are told. Conditions: none beyond the form's own. -/
import Derived.Test.YtcgphknnnjpbkaaRows
import Derived.Test.YtcgphknnnjpbkaaArgs
import Derived.Test.YtcgphknnnjpbkaaPbH
import Derived.Deep.RegionHeld3
import Derived.BigQuiet
namespace Go.Proofs.Ytcgphknnnjpbkaa.readClass
open Go.Proofs.Ytcgphknnnjpbkaa
open Go.ChangeShapes Go.WideShapes Go.ChangeAt Go.RowKit Go.Deep
open Go.ChangeMaps (open_string shut_string)
set_option linter.unusedVariables false

theorem own : ownKnob Try.prog.godebug = none := by kernel_rfl
theorem laidOut : laidOutB Try.prog = true := by kernel_rfl
-- opt: 16000000
open SetM
attribute [local go_sem ↓] Go.wp_at_zero Go.wp_at_succ
attribute [local go_sem] later_cell later_frozen min_str max_str
set_option maxRecDepth 100000 in
set_option maxHeartbeats 16000000 in
theorem walk (a0 : Value) (l0 : List SpanM.Sp) (a1 : Bool) (w : World) (w0 : SpAt w a0 l0) (b0 : ∀ s ∈ l0, Wf s) :
    Calls Try.prog 10 #[a0, .bool a1] w fun e w' => e = .returned (.bool true) ∧ Below w.heap.size w w' := by
  obtain ⟨i0, hi0, hz0', hz1, hz2⟩ := info_parts info_rw
  have HSP := hide w0
  obtain ⟨vA, vc, rfl⟩ := spat_len w0
  clear w0 b0
  by_cases h10 : 10 < l0.length
  case pos =>
    have d1 : decide ((10 : Int) < (l0.length : Int)) = true := decide_eq_true (by omega)
    have d1' : decide (10 < l0.length) = true := decide_eq_true h10
    clear h10
    go_enter Try.func10, Try.ntmps10
    go_wp2_with fail
    refine (awake14_any _).mono ?_
    rintro e w1 ⟨rfl, hb1⟩
    go_wp2
    go_ret
    exact ⟨rfl, hb1⟩
  have d1 : decide ((10 : Int) < (l0.length : Int)) = false := decide_eq_false (by omega)
  have d1' : decide (10 < l0.length) = false := decide_eq_false h10
  have HLL := hide (show l0.length ≤ 10 by omega)
  clear h10
  go_enter Try.func10, Try.ntmps10
  go_wp2
  go_loopw [6, 7, 8, 9] (fun t u wn i wr => ∃ (k : Nat) (I : List It) (S U : ByteArray) (R : List Rw) (A : Option Addr) (c : Nat), t = .string S ∧ u = .string U ∧ wn = .slice A R.length c ∧ i = .int .i64 k ∧ k ≤ l0.length ∧ S.size ≤ 3 * k ∧ U.size ≤ 3 * k ∧ R.length = k ∧ Hid (S.data.toList = bytesI I ∧ U.data.toList = bytesI I.reverse ∧ (∀ x ∈ I, x.ok) ∧ R = I.map It.r) ∧ Hid (wr.ownsRow w.heap.size 47 2 (.slice A R.length c) R.length (flatR R)) ∧ Hid (Below w.heap.size w wr)) (fun _ _ _ i _ => l0.length - (intOf i).toNat)
  case atStart => exact ⟨0, [], ⟨#[]⟩, ⟨#[]⟩, [], none, 0, rfl, rfl, rfl, rfl, Nat.zero_le _, Nat.le_refl _, Nat.le_refl _, rfl, hide ⟨rfl, rfl, fun x hx => (by cases hx), rfl⟩, hide ⟨rfl, .inl ⟨rfl, rfl⟩⟩, hide (bl_refl w)⟩
  case round =>
    obtain ⟨k, I, S, U, R, A, c, rfl, rfl, rfl, rfl, hk, hS, hU, hR, HE, HROW, HBL⟩ := hrel
    by_cases hlt : k < l0.length
    · obtain ⟨b1, o1, c1', hv1, hc1, hm1, hlb1, hcell⟩ := spat_some HSP.out (by omega)
      injection hv1 with hv1 _ hv1c
      subst hv1 hv1c
      obtain ⟨q0, q1⟩ := hcell k hlt
      have p0 := cell_later HBL.out q0
      have p1 := cell_later HBL.out q1
      have hbw := World.block_lt_of_cell? _ _ p0
      obtain ⟨x0, hx0⟩ : ∃ x, (l0[k]'hlt).1 = x := ⟨_, rfl⟩
      obtain ⟨x1, hx1⟩ : ∃ x, (l0[k]'hlt).2 = x := ⟨_, rfl⟩
      rw [hx0] at p0
      rw [hx1] at p1
      have hla := fun W => low_any x0 36 W (by omega) (by omega)
      have hlb := fun W => low_any x1 36 W (by omega) (by omega)
      have la := lowN_lt x0 36 (by omega)
      have lb := lowN_lt x1 36 (by omega)
      obtain ⟨a, ha⟩ : ∃ a, lowN x0 36 = a := ⟨_, rfl⟩
      obtain ⟨z, hz⟩ : ∃ a, lowN x1 36 = a := ⟨_, rfl⟩
      rw [ha] at hla la
      rw [hz] at hlb lb
      have HLA := hide hla
      have HLB := hide hlb
      obtain ⟨sa, hsa⟩ : ∃ x, litA.extract a (a + 1) = x := ⟨_, rfl⟩
      obtain ⟨sb, hsb⟩ : ∃ x, litA.extract z (z + 1) = x := ⟨_, rfl⟩
      have hsa2 : sa = bsC [alF a] := by rw [← hsa]; exact lit_at a la
      have hsb2 : sb = bsC [alF z] := by rw [← hsb]; exact lit_at z lb
      unfold litA at hsa hsb
      obtain ⟨fr, hfr⟩ : ∃ x, mnS sa sb = x := ⟨_, rfl⟩
      obtain ⟨to, hto⟩ : ∃ x, mx sa sb = x := ⟨_, rfl⟩
      have hfr2 : fr = bsC [itF a z] := by rw [← hfr, hsa2, hsb2]; exact mn_at a z
      have hto2 : to = bsC [itT a z] := by rw [← hto, hsa2, hsb2]; exact mx_at a z
      have hfz : fr.size = 1 := by rw [hfr2, bsC_size]; rfl
      have htz : to.size = 1 := by rw [hto2, bsC_size]; rfl
      have HFR := hide hfr2
      have HTO := hide hto2
      have HAB := hide (And.intro la lb)
      have gl : decide (k < l0.length) = true := decide_eq_true hlt
      have gl' : decide ((k : Int) < (l0.length : Int)) = true := decide_eq_true (by omega)
      have e5 : IntKind.i64.wrap ((k : Int) + 1) = (k : Int) + 1 := by rw [IntKind.wrap_i64]; have := HLL.out; omega
      have e6 : IntKind.i64.wrap ((a : Int) + 1) = (a : Int) + 1 := by rw [IntKind.wrap_i64]; omega
      have e7 : IntKind.i64.wrap ((z : Int) + 1) = (z : Int) + 1 := by rw [IntKind.wrap_i64]; omega
      have i1 : (0 : Int) ≤ (k : Int) := by omega
      have i2 : (k : Int) < (l0.length : Int) := by omega
      have j1 : (0 : Int) ≤ (a : Int) := by omega
      have j2 : (a : Int) ≤ (a : Int) + 1 := by omega
      have j3 : (a : Int) + 1 ≤ 36 := by omega
      have j4 : (0 : Int) ≤ (z : Int) := by omega
      have j5 : (z : Int) ≤ (z : Int) + 1 := by omega
      have j6 : (z : Int) + 1 ≤ 36 := by omega
      have HLT := hide hlt
      have HKK := hide (And.intro hS (And.intro hU hR))
      have hk30 : k ≤ 9 := by have := HLL.out; omega
      have hr10 : R.length ≤ 10 := by omega
      clear hcell q0 q1 hx0 hx1 hla hlb la lb ha hz hsa2 hsb2 hfr2 hto2 hk hlt hc1 hm1 hlb1 hR
      go_wp2_with fail
      refine wp_region_later (by kernel_rfl) (by kernel_rfl) ?_
      repeat (go_big_quiet_step (first | (go_at_call_of 21 (Value.int IntKind.i64 x0); exact later_call_same (HLA.out _)) | (go_at_call_of 21 (Value.int IntKind.i64 x1); exact later_call_same (HLB.out _)) | exact rfl))
      refine wpQuiet_nil ?_
      rintro w9 ⟨⟨_, hb9⟩, rfl⟩
      have HB9 := hide (bl_trans HBL.out hb9)
      have HROW9 := hide (own_below HROW.out hb9)
      clear hb9 p0 p1 hbw
      go_wp2_with fail
      go_quiet (fail)
      have r1 : (0 : Int) ≤ (a : Int) % 2 := by omega
      obtain ⟨qe, hqe⟩ : ∃ q, (fr.toList == to.toList) = q := ⟨_, rfl⟩
      cases qe
      · have HONEB := hide (show (fr ++ ⟨#[45]⟩ ++ to).data.toList = It.b ⟨itF a z, itT a z, false⟩ by rw [ByteArray.toList_data_append, ByteArray.toList_data_append, HFR.out, HTO.out, bsC_data, bsC_data]; rfl)
        have HONEZ := hide (show (fr ++ ⟨#[45]⟩ ++ to).size ≤ 3 by rw [ByteArray.size_append, ByteArray.size_append, hfz, htz]; decide)
        have HQ9 := hide (show false = true → itF a z = itT a z from fun q => by cases q)
        go_wp2_with (at_builtin; go_must (refine wpList_src _ rfl _ _ 23 rfl w.heap.size 47 i0 (.agg #[.string ⟨#[]⟩, .string ⟨#[]⟩]) 2 32 Try.underlying23 hi0 hz0' hz1 hz2 rfl (by decide) (.slice A R.length c) R.length (flatR R) rfl (own_below (own_below HROW9.out (bl_drewN (bl_refl _) _)) (bl_alloc (bl_refl _) _)) (some ⟨_, 0, none⟩) 1 1 [.string fr, .string to] rfl (src_block (cs := #[.string fr, .string to]) (heap_new (by simp)) rfl) (one_cellR [(fr, to)]) (by omega) (by decide) (Nat.le_trans HB9.out.size (bl_alloc (bl_drewN (bl_refl _) _) _).size) ?_); intro v' w19 hv9 hg9)
        have HB19 := hide (bl_own (bl_trans HB9.out (bl_alloc (bl_drewN (bl_refl w9) _) _)) (own_below (own_below HROW9.out (bl_drewN (bl_refl _) _)) (bl_alloc (bl_refl _) _)) hg9 (Nat.le_refl _))
        obtain ⟨A', c', rfl⟩ := own_slice hv9
        have HROW4 := hide (show w19.ownsRow w.heap.size 47 2 (.slice A' (R ++ [(fr, to)]).length c') (R ++ [(fr, to)]).length (flatR (R ++ [(fr, to)])) by
          rw [List.length_append, show flatR (R ++ [(fr, to)]) = flatR R ++ flatR [(fr, to)] from List.flatMap_append]; exact hv9)
        have HLEN := hide (show Value.slice A' (R.length + 1) c' = .slice A' (R ++ [(fr, to)]).length c' by rw [List.length_append] <;> rfl)
        have HE2 := hide (show (S ++ (fr ++ ⟨#[45]⟩ ++ to)).data.toList = bytesI (I ++ [It.mk (itF a z) (itT a z) false]) ∧ ((fr ++ ⟨#[45]⟩ ++ to) ++ U).data.toList = bytesI (I ++ [It.mk (itF a z) (itT a z) false]).reverse ∧ (∀ x ∈ I ++ [It.mk (itF a z) (itT a z) false], x.ok) ∧ R ++ [(fr, to)] = (I ++ [It.mk (itF a z) (itT a z) false]).map It.r from by
          obtain ⟨E1, E2, E3, E4⟩ := HE.out
          have ho := HONEB.out
          refine ⟨?_, ?_, fun x hx => ?_, ?_⟩
          · rw [ByteArray.toList_data_append, E1, ho]
            unfold bytesI; rw [List.flatMap_append]; rfl
          · rw [ByteArray.toList_data_append, E2, ho, List.reverse_append]
            unfold bytesI; rfl
          · rcases List.mem_append.1 hx with hx | hx
            · exact E3 x hx
            · obtain rfl : x = _ := List.mem_singleton.1 hx
              exact it_ok a z HAB.out.1 HAB.out.2 _ HQ9.out
          · rw [List.map_append, E4, HFR.out, HTO.out]; rfl)
        have HSZ := hide (show (S ++ (fr ++ ⟨#[45]⟩ ++ to)).size ≤ 3 * (k + 1) ∧ ((fr ++ ⟨#[45]⟩ ++ to) ++ U).size ≤ 3 * (k + 1) ∧ (R ++ [(fr, to)]).length = k + 1 from by
          obtain ⟨E1, E2, E3⟩ := HKK.out
          have hz := HONEZ.out
          simp only [ByteArray.size_append] at hz ⊢
          rw [List.length_append]
          simp only [List.length_cons, List.length_nil]
          omega)
        clear hv9 hg9
        go_wp2
        refine ⟨?_, by simp [intOf]; have := HLT.out; omega⟩
        first
          | exact ⟨k + 1, I ++ [It.mk (itF a z) (itT a z) false], S ++ (fr ++ ⟨#[45]⟩ ++ to), (fr ++ ⟨#[45]⟩ ++ to) ++ U, R ++ [(fr, to)], A', c', rfl, rfl, HLEN.out, rfl, HLT.out, HSZ.out.1, HSZ.out.2.1, HSZ.out.2.2, HE2, HROW4, HB19⟩
          | exact ⟨k + 1, I ++ [It.mk (itF a z) (itT a z) false], S ++ (fr ++ ⟨#[45]⟩ ++ to), (fr ++ ⟨#[45]⟩ ++ to) ++ U, R ++ [(fr, to)], A', c', rfl, rfl, HLEN.out, by simp, HLT.out, HSZ.out.1, HSZ.out.2.1, HSZ.out.2.2, HE2, HROW4, HB19⟩
      by_cases hev : a % 2 = 0
      · have v1 : ((a : Int) % 2 == 0) = true := by rw [beq_iff_eq]; omega
        have v2 : (a % 2 == 0) = true := beq_iff_eq.2 hev
        have v3 : (Int.tmod (a : Int) 2) = (0 : Int) := by rw [Int.tmod_eq_emod_of_nonneg (by omega)]; omega
        have v4 : IntKind.i64.wrap (Int.tmod (a : Int) 2) = 0 := by rw [v3]; rfl
        have HONEB := hide (show fr.data.toList = It.b ⟨itF a z, itT a z, true⟩ by rw [HFR.out, bsC_data]; rfl)
        have HONEZ := hide (show fr.size ≤ 3 by omega)
        have HQ9 := hide (show true = true → itF a z = itT a z from fun _ => by
          have h1 : fr = to := ext _ _ (beq_iff_eq.1 (by rw [Go.ByteArray.toList_eq, Go.ByteArray.toList_eq] at hqe; exact hqe))
          rw [HFR.out, HTO.out] at h1
          have := congrArg (fun x => x.data.toList) h1
          simpa [bsC] using this)
        clear hev
        go_wp2_with (at_builtin; go_must (refine wpList_src _ rfl _ _ 23 rfl w.heap.size 47 i0 (.agg #[.string ⟨#[]⟩, .string ⟨#[]⟩]) 2 32 Try.underlying23 hi0 hz0' hz1 hz2 rfl (by decide) (.slice A R.length c) R.length (flatR R) rfl (own_below (own_below HROW9.out (bl_drewN (bl_refl _) _)) (bl_alloc (bl_refl _) _)) (some ⟨_, 0, none⟩) 1 1 [.string fr, .string to] rfl (src_block (cs := #[.string fr, .string to]) (heap_new (by simp)) rfl) (one_cellR [(fr, to)]) (by omega) (by decide) (Nat.le_trans HB9.out.size (bl_alloc (bl_drewN (bl_refl _) _) _).size) ?_); intro v' w19 hv9 hg9)
        have HB19 := hide (bl_own (bl_trans HB9.out (bl_alloc (bl_drewN (bl_refl w9) _) _)) (own_below (own_below HROW9.out (bl_drewN (bl_refl _) _)) (bl_alloc (bl_refl _) _)) hg9 (Nat.le_refl _))
        obtain ⟨A', c', rfl⟩ := own_slice hv9
        have HROW4 := hide (show w19.ownsRow w.heap.size 47 2 (.slice A' (R ++ [(fr, to)]).length c') (R ++ [(fr, to)]).length (flatR (R ++ [(fr, to)])) by
          rw [List.length_append, show flatR (R ++ [(fr, to)]) = flatR R ++ flatR [(fr, to)] from List.flatMap_append]; exact hv9)
        have HLEN := hide (show Value.slice A' (R.length + 1) c' = .slice A' (R ++ [(fr, to)]).length c' by rw [List.length_append] <;> rfl)
        have HE2 := hide (show (S ++ fr).data.toList = bytesI (I ++ [It.mk (itF a z) (itT a z) true]) ∧ (fr ++ U).data.toList = bytesI (I ++ [It.mk (itF a z) (itT a z) true]).reverse ∧ (∀ x ∈ I ++ [It.mk (itF a z) (itT a z) true], x.ok) ∧ R ++ [(fr, to)] = (I ++ [It.mk (itF a z) (itT a z) true]).map It.r from by
          obtain ⟨E1, E2, E3, E4⟩ := HE.out
          have ho := HONEB.out
          refine ⟨?_, ?_, fun x hx => ?_, ?_⟩
          · rw [ByteArray.toList_data_append, E1, ho]
            unfold bytesI; rw [List.flatMap_append]; rfl
          · rw [ByteArray.toList_data_append, E2, ho, List.reverse_append]
            unfold bytesI; rfl
          · rcases List.mem_append.1 hx with hx | hx
            · exact E3 x hx
            · obtain rfl : x = _ := List.mem_singleton.1 hx
              exact it_ok a z HAB.out.1 HAB.out.2 _ HQ9.out
          · rw [List.map_append, E4, HFR.out, HTO.out]; rfl)
        have HSZ := hide (show (S ++ fr).size ≤ 3 * (k + 1) ∧ (fr ++ U).size ≤ 3 * (k + 1) ∧ (R ++ [(fr, to)]).length = k + 1 from by
          obtain ⟨E1, E2, E3⟩ := HKK.out
          have hz := HONEZ.out
          simp only [ByteArray.size_append] at hz ⊢
          rw [List.length_append]
          simp only [List.length_cons, List.length_nil]
          omega)
        clear hv9 hg9
        go_wp2
        refine ⟨?_, by simp [intOf]; have := HLT.out; omega⟩
        first
          | exact ⟨k + 1, I ++ [It.mk (itF a z) (itT a z) true], S ++ fr, fr ++ U, R ++ [(fr, to)], A', c', rfl, rfl, HLEN.out, rfl, HLT.out, HSZ.out.1, HSZ.out.2.1, HSZ.out.2.2, HE2, HROW4, HB19⟩
          | exact ⟨k + 1, I ++ [It.mk (itF a z) (itT a z) true], S ++ fr, fr ++ U, R ++ [(fr, to)], A', c', rfl, rfl, HLEN.out, by simp, HLT.out, HSZ.out.1, HSZ.out.2.1, HSZ.out.2.2, HE2, HROW4, HB19⟩
      · have v1 : ((a : Int) % 2 == 0) = false := by rw [beq_eq_false_iff_ne]; omega
        have v2 : (a % 2 == 0) = false := beq_eq_false_iff_ne.2 hev
        have v3 : (Int.tmod (a : Int) 2) = (1 : Int) := by rw [Int.tmod_eq_emod_of_nonneg (by omega)]; omega
        have v4 : IntKind.i64.wrap (Int.tmod (a : Int) 2) = 1 := by rw [v3]; rfl
        have HONEB := hide (show (fr ++ ⟨#[45]⟩ ++ to).data.toList = It.b ⟨itF a z, itT a z, false⟩ by rw [ByteArray.toList_data_append, ByteArray.toList_data_append, HFR.out, HTO.out, bsC_data, bsC_data]; rfl)
        have HONEZ := hide (show (fr ++ ⟨#[45]⟩ ++ to).size ≤ 3 by rw [ByteArray.size_append, ByteArray.size_append, hfz, htz]; decide)
        have HQ9 := hide (show false = true → itF a z = itT a z from fun q => by cases q)
        clear hev
        go_wp2_with (at_builtin; go_must (refine wpList_src _ rfl _ _ 23 rfl w.heap.size 47 i0 (.agg #[.string ⟨#[]⟩, .string ⟨#[]⟩]) 2 32 Try.underlying23 hi0 hz0' hz1 hz2 rfl (by decide) (.slice A R.length c) R.length (flatR R) rfl (own_below (own_below HROW9.out (bl_drewN (bl_refl _) _)) (bl_alloc (bl_refl _) _)) (some ⟨_, 0, none⟩) 1 1 [.string fr, .string to] rfl (src_block (cs := #[.string fr, .string to]) (heap_new (by simp)) rfl) (one_cellR [(fr, to)]) (by omega) (by decide) (Nat.le_trans HB9.out.size (bl_alloc (bl_drewN (bl_refl _) _) _).size) ?_); intro v' w19 hv9 hg9)
        have HB19 := hide (bl_own (bl_trans HB9.out (bl_alloc (bl_drewN (bl_refl w9) _) _)) (own_below (own_below HROW9.out (bl_drewN (bl_refl _) _)) (bl_alloc (bl_refl _) _)) hg9 (Nat.le_refl _))
        obtain ⟨A', c', rfl⟩ := own_slice hv9
        have HROW4 := hide (show w19.ownsRow w.heap.size 47 2 (.slice A' (R ++ [(fr, to)]).length c') (R ++ [(fr, to)]).length (flatR (R ++ [(fr, to)])) by
          rw [List.length_append, show flatR (R ++ [(fr, to)]) = flatR R ++ flatR [(fr, to)] from List.flatMap_append]; exact hv9)
        have HLEN := hide (show Value.slice A' (R.length + 1) c' = .slice A' (R ++ [(fr, to)]).length c' by rw [List.length_append] <;> rfl)
        have HE2 := hide (show (S ++ (fr ++ ⟨#[45]⟩ ++ to)).data.toList = bytesI (I ++ [It.mk (itF a z) (itT a z) false]) ∧ ((fr ++ ⟨#[45]⟩ ++ to) ++ U).data.toList = bytesI (I ++ [It.mk (itF a z) (itT a z) false]).reverse ∧ (∀ x ∈ I ++ [It.mk (itF a z) (itT a z) false], x.ok) ∧ R ++ [(fr, to)] = (I ++ [It.mk (itF a z) (itT a z) false]).map It.r from by
          obtain ⟨E1, E2, E3, E4⟩ := HE.out
          have ho := HONEB.out
          refine ⟨?_, ?_, fun x hx => ?_, ?_⟩
          · rw [ByteArray.toList_data_append, E1, ho]
            unfold bytesI; rw [List.flatMap_append]; rfl
          · rw [ByteArray.toList_data_append, E2, ho, List.reverse_append]
            unfold bytesI; rfl
          · rcases List.mem_append.1 hx with hx | hx
            · exact E3 x hx
            · obtain rfl : x = _ := List.mem_singleton.1 hx
              exact it_ok a z HAB.out.1 HAB.out.2 _ HQ9.out
          · rw [List.map_append, E4, HFR.out, HTO.out]; rfl)
        have HSZ := hide (show (S ++ (fr ++ ⟨#[45]⟩ ++ to)).size ≤ 3 * (k + 1) ∧ ((fr ++ ⟨#[45]⟩ ++ to) ++ U).size ≤ 3 * (k + 1) ∧ (R ++ [(fr, to)]).length = k + 1 from by
          obtain ⟨E1, E2, E3⟩ := HKK.out
          have hz := HONEZ.out
          simp only [ByteArray.size_append] at hz ⊢
          rw [List.length_append]
          simp only [List.length_cons, List.length_nil]
          omega)
        clear hv9 hg9
        go_wp2
        refine ⟨?_, by simp [intOf]; have := HLT.out; omega⟩
        first
          | exact ⟨k + 1, I ++ [It.mk (itF a z) (itT a z) false], S ++ (fr ++ ⟨#[45]⟩ ++ to), (fr ++ ⟨#[45]⟩ ++ to) ++ U, R ++ [(fr, to)], A', c', rfl, rfl, HLEN.out, rfl, HLT.out, HSZ.out.1, HSZ.out.2.1, HSZ.out.2.2, HE2, HROW4, HB19⟩
          | exact ⟨k + 1, I ++ [It.mk (itF a z) (itT a z) false], S ++ (fr ++ ⟨#[45]⟩ ++ to), (fr ++ ⟨#[45]⟩ ++ to) ++ U, R ++ [(fr, to)], A', c', rfl, rfl, HLEN.out, by simp, HLT.out, HSZ.out.1, HSZ.out.2.1, HSZ.out.2.2, HE2, HROW4, HB19⟩
    · obtain rfl : k = l0.length := by omega
      have gl : decide (l0.length < l0.length) = false := decide_eq_false (Nat.lt_irrefl _)
      have gl' : decide ((l0.length : Int) < (l0.length : Int)) = false := decide_eq_false (by omega)
      have hl10 := HLL.out
      obtain ⟨E1, E2, E3, E4⟩ := HE.out
      have hI : I.length ≤ 10 := by
        have : R.length = I.length := by rw [E4, List.length_map]
        omega
      have hS30 : S.size ≤ 30 := by omega
      have hU30 : U.size ≤ 30 := by omega
      have hR10 : R.length ≤ 10 := by omega
      cases a1
      · have HR1 := hide (fun W => read_any (⟨#[91]⟩ ++ S ++ ⟨#[93]⟩) (by simp only [ByteArray.size_append]; show 1 + S.size + 1 ≤ _; omega) W _ (show readP (⟨#[91]⟩ ++ S ++ ⟨#[93]⟩).data.toList = .ok (setX false (uniF (sortS (okU R)))) [] from by
          rw [ByteArray.toList_data_append, ByteArray.toList_data_append, E1, List.append_assoc, E4]; exact readP_class false I E3 hI))
        have HR2 := hide (fun W => read_any (⟨#[91]⟩ ++ U ++ ⟨#[93]⟩) (by simp only [ByteArray.size_append]; show 1 + U.size + 1 ≤ _; omega) W _ (show readP (⟨#[91]⟩ ++ U ++ ⟨#[93]⟩).data.toList = .ok (setX false (uniF (sortS (okU R)))) [] from by
          rw [ByteArray.toList_data_append, ByteArray.toList_data_append, E2, List.append_assoc, E4, ← uni_rev I]; exact readP_class false I.reverse (fun x hx => E3 x (List.mem_reverse.1 hx)) (by rw [List.length_reverse]; exact hI)))
        unfold RdPost at HR1 HR2
        have hsh : ∀ s ∈ R, Short s := fun s hs => by
          rw [E4] at hs
          obtain ⟨i, -, rfl⟩ := List.mem_map.1 hs
          unfold It.r
          exact ⟨by rw [bsC_size]; simp, by rw [bsC_size]; simp⟩
        have HRW := hide (own_rwat HROW.out)
        have HUN := hide (fun W (hb : Below wr.heap.size wr W) => union_any _ R W (rwat_below HRW.out hb) (by omega) hsh)
        have sz1 : S.size ≤ 30 := by omega
        have sz2 : U.size ≤ 30 := by omega
        clear E1 E2 E3 E4 hI hsh hS hU hR hk HE HROW
        go_wp2_with fail
        refine (HR1.out _).mono ?_
        rintro e w1 ⟨t, rfl, hb1, hrx1, -, her1⟩
        obtain ⟨tA, tc, tB, td, hrv1, hkv1, hv1⟩ := rx_vv hrx1
        rw [hv1]
        have HX1 := hide hrx1
        have HV1 := hide hv1
        have HE1 := hide her1
        have HBT1 := hide hb1
        have htc : ∀ j y9, ([.int .i64 t.k, .string t.ch, .bool t.nt, .slice tA t.rows.length tc, .int .i64 t.mi, .int .i64 t.ma, .bool t.lz, .slice tB t.kids.length td] : List Value)[j]? = some y9 → (w1.alloc (.cells #[.int .i64 t.k, .string t.ch, .bool t.nt, .slice tA t.rows.length tc, .int .i64 t.mi, .int .i64 t.ma, .bool t.lz, .slice tB t.kids.length td] 26)).cell? ⟨w1.heap.size, j, none⟩ = some y9 := ks_alloc (W := w1) (T := 26) (cs := [.int .i64 t.k, .string t.ch, .bool t.nt, .slice tA t.rows.length tc, .int .i64 t.mi, .int .i64 t.ma, .bool t.lz, .slice tB t.kids.length td]) rfl
        have HT1 := hide htc
        clear hb1 hrx1 her1 hrv1 hkv1 hv1 htc
        go_wp2_with fail
        refine (HR2.out _).mono ?_
        rintro e w2 ⟨u, rfl, hb2, hrx2, -, her2⟩
        obtain ⟨uA, uc, uB, ud, hrv2, hkv2, hv2⟩ := rx_vv hrx2
        rw [hv2]
        have HX2 := hide hrx2
        have HV2 := hide hv2
        have HE2 := hide her2
        obtain ⟨W3, hW3⟩ : ∃ W, w2.alloc (.cells #[.int .i64 u.k, .string u.ch, .bool u.nt, .slice uA u.rows.length uc, .int .i64 u.mi, .int .i64 u.ma, .bool u.lz, .slice uB u.kids.length ud] 26) = W := ⟨_, rfl⟩
        have h23 : Below w2.heap.size w2 W3 := by rw [← hW3]; exact bl_alloc (bl_refl w2) _
        have h13 := bl_trans (bl_alloc (bl_refl w1) (.cells #[.int .i64 t.k, .string t.ch, .bool t.nt, .slice tA t.rows.length tc, .int .i64 t.mi, .int .i64 t.ma, .bool t.lz, .slice tB t.kids.length td] 26)) (bl_trans hb2 h23)
        obtain ⟨x0, x1, x2, x3, x4, x5, x6, x7⟩ := (show W3.cell? ⟨w1.heap.size, 0, none⟩ = some (.int .i64 t.k) ∧ W3.cell? ⟨w1.heap.size, 1, none⟩ = some (.string t.ch) ∧ W3.cell? ⟨w1.heap.size, 2, none⟩ = some (.bool t.nt) ∧ W3.cell? ⟨w1.heap.size, 3, none⟩ = some (.slice tA t.rows.length tc) ∧ W3.cell? ⟨w1.heap.size, 4, none⟩ = some (.int .i64 t.mi) ∧ W3.cell? ⟨w1.heap.size, 5, none⟩ = some (.int .i64 t.ma) ∧ W3.cell? ⟨w1.heap.size, 6, none⟩ = some (.bool t.lz) ∧ W3.cell? ⟨w1.heap.size, 7, none⟩ = some (.slice tB t.kids.length td) from ⟨cell_later (bl_trans hb2 h23) (HT1.out 0 _ rfl), cell_later (bl_trans hb2 h23) (HT1.out 1 _ rfl), cell_later (bl_trans hb2 h23) (HT1.out 2 _ rfl), cell_later (bl_trans hb2 h23) (HT1.out 3 _ rfl), cell_later (bl_trans hb2 h23) (HT1.out 4 _ rfl), cell_later (bl_trans hb2 h23) (HT1.out 5 _ rfl), cell_later (bl_trans hb2 h23) (HT1.out 6 _ rfl), cell_later (bl_trans hb2 h23) (HT1.out 7 _ rfl)⟩)
        have huc : ∀ j y9, ([.int .i64 u.k, .string u.ch, .bool u.nt, .slice uA u.rows.length uc, .int .i64 u.mi, .int .i64 u.ma, .bool u.lz, .slice uB u.kids.length ud] : List Value)[j]? = some y9 → W3.cell? ⟨w2.heap.size, j, none⟩ = some y9 := by rw [← hW3]; exact ks_alloc (W := w2) (T := 26) (cs := [.int .i64 u.k, .string u.ch, .bool u.nt, .slice uA u.rows.length uc, .int .i64 u.mi, .int .i64 u.ma, .bool u.lz, .slice uB u.kids.length ud]) rfl
        obtain ⟨y0, y1, y2, y3, y4, y5, y6, y7⟩ := (show W3.cell? ⟨w2.heap.size, 0, none⟩ = some (.int .i64 u.k) ∧ W3.cell? ⟨w2.heap.size, 1, none⟩ = some (.string u.ch) ∧ W3.cell? ⟨w2.heap.size, 2, none⟩ = some (.bool u.nt) ∧ W3.cell? ⟨w2.heap.size, 3, none⟩ = some (.slice uA u.rows.length uc) ∧ W3.cell? ⟨w2.heap.size, 4, none⟩ = some (.int .i64 u.mi) ∧ W3.cell? ⟨w2.heap.size, 5, none⟩ = some (.int .i64 u.ma) ∧ W3.cell? ⟨w2.heap.size, 6, none⟩ = some (.bool u.lz) ∧ W3.cell? ⟨w2.heap.size, 7, none⟩ = some (.slice uB u.kids.length ud) from ⟨huc 0 _ rfl, huc 1 _ rfl, huc 2 _ rfl, huc 3 _ rfl, huc 4 _ rfl, huc 5 _ rfl, huc 6 _ rfl, huc 7 _ rfl⟩)
        have HRT := hide (rx_below HX1.out h13)
        have HRU := hide (rx_below HX2.out h23)
        have HBR := hide (bl_trans HBT1.out h13)
        have HBW := hide (bl_trans HBL.out (bl_trans HBT1.out h13))
        have HSM1 := hide (fun (W : World) (hb : Below W3.heap.size W3 W) => (show Calls Try.prog 15 #[.agg #[.int .i64 t.k, .string t.ch, .bool t.nt, .slice tA t.rows.length tc, .int .i64 t.mi, .int .i64 t.ma, .bool t.lz, .slice tB t.kids.length td], .agg #[.int .i64 u.k, .string u.ch, .bool u.nt, .slice uA u.rows.length uc, .int .i64 u.mi, .int .i64 u.ma, .bool u.lz, .slice uB u.kids.length ud]] W (fun e w' => e = .returned (.bool true) ∧ Below W.heap.size W w') from by
          have hh := same_any HRT.out HRU.out W hb
          rw [sameM_of (HE1.out.trans HE2.out.symm), HV1.out, HV2.out] at hh
          exact hh))
        obtain ⟨UU, hUU⟩ : ∃ x, uniF (sortS (okU R)) = x := ⟨_, rfl⟩
        rw [hUU] at HUN HE1
        have HSM2 := hide (fun (V W : World) (gA : Option Addr) (gc : Nat) (hr : RwAt V (.slice gA UU.length gc) UU) (h1 : Below V.heap.size V W) (h3 : Below W3.heap.size W3 V) => (show Calls Try.prog 15 #[.agg #[.int .i64 t.k, .string t.ch, .bool t.nt, .slice tA t.rows.length tc, .int .i64 t.mi, .int .i64 t.ma, .bool t.lz, .slice tB t.kids.length td], .agg #[.int .i64 4, .string ⟨#[]⟩, .bool false, .slice gA UU.length gc, .int .i64 0, .int .i64 0, .bool false, .slice none 0 0]] W (fun e w' => e = .returned (.bool true) ∧ Below W.heap.size W w') from by
          have hz : RxAt V (.mk 4 ⟨#[]⟩ false (.slice gA UU.length gc) UU 0 0 false (.slice none 0 0) []) := .mk _ hr (.inl ⟨rfl, rfl⟩) (fun i hi => absurd hi (Nat.not_lt_zero _))
          have hh := same_any (rx_below HRT.out h3) hz W h1
          rw [sameM_of (HE1.out.trans (by rw [er_eq]; rfl)), HV1.out] at hh
          exact hh))
        clear hb2 hrx2 her2 hrv2 hkv2 hv2 h23 h13 huc hUU
        have HKEEP := hide (show ∀ W, Below W3.heap.size W3 W → (Below W3.heap.size W3 W ∧ W.cell? ⟨w1.heap.size, 0, none⟩ = some (.int .i64 t.k) ∧ W.cell? ⟨w1.heap.size, 1, none⟩ = some (.string t.ch) ∧ W.cell? ⟨w1.heap.size, 2, none⟩ = some (.bool t.nt) ∧ W.cell? ⟨w1.heap.size, 3, none⟩ = some (.slice tA t.rows.length tc) ∧ W.cell? ⟨w1.heap.size, 4, none⟩ = some (.int .i64 t.mi) ∧ W.cell? ⟨w1.heap.size, 5, none⟩ = some (.int .i64 t.ma) ∧ W.cell? ⟨w1.heap.size, 6, none⟩ = some (.bool t.lz) ∧ W.cell? ⟨w1.heap.size, 7, none⟩ = some (.slice tB t.kids.length td) ∧ W.cell? ⟨w2.heap.size, 0, none⟩ = some (.int .i64 u.k) ∧ W.cell? ⟨w2.heap.size, 1, none⟩ = some (.string u.ch) ∧ W.cell? ⟨w2.heap.size, 2, none⟩ = some (.bool u.nt) ∧ W.cell? ⟨w2.heap.size, 3, none⟩ = some (.slice uA u.rows.length uc) ∧ W.cell? ⟨w2.heap.size, 4, none⟩ = some (.int .i64 u.mi) ∧ W.cell? ⟨w2.heap.size, 5, none⟩ = some (.int .i64 u.ma) ∧ W.cell? ⟨w2.heap.size, 6, none⟩ = some (.bool u.lz) ∧ W.cell? ⟨w2.heap.size, 7, none⟩ = some (.slice uB u.kids.length ud)) from fun W hb => ⟨hb, cell_later hb x0, cell_later hb x1, cell_later hb x2, cell_later hb x3, cell_later hb x4, cell_later hb x5, cell_later hb x6, cell_later hb x7, cell_later hb y0, cell_later hb y1, cell_later hb y2, cell_later hb y3, cell_later hb y4, cell_later hb y5, cell_later hb y6, cell_later hb y7⟩)
        go_wp2_with fail
        go_region_held3 (fun W => Below W3.heap.size W3 W ∧ W.cell? ⟨w1.heap.size, 0, none⟩ = some (.int .i64 t.k) ∧ W.cell? ⟨w1.heap.size, 1, none⟩ = some (.string t.ch) ∧ W.cell? ⟨w1.heap.size, 2, none⟩ = some (.bool t.nt) ∧ W.cell? ⟨w1.heap.size, 3, none⟩ = some (.slice tA t.rows.length tc) ∧ W.cell? ⟨w1.heap.size, 4, none⟩ = some (.int .i64 t.mi) ∧ W.cell? ⟨w1.heap.size, 5, none⟩ = some (.int .i64 t.ma) ∧ W.cell? ⟨w1.heap.size, 6, none⟩ = some (.bool t.lz) ∧ W.cell? ⟨w1.heap.size, 7, none⟩ = some (.slice tB t.kids.length td) ∧ W.cell? ⟨w2.heap.size, 0, none⟩ = some (.int .i64 u.k) ∧ W.cell? ⟨w2.heap.size, 1, none⟩ = some (.string u.ch) ∧ W.cell? ⟨w2.heap.size, 2, none⟩ = some (.bool u.nt) ∧ W.cell? ⟨w2.heap.size, 3, none⟩ = some (.slice uA u.rows.length uc) ∧ W.cell? ⟨w2.heap.size, 4, none⟩ = some (.int .i64 u.mi) ∧ W.cell? ⟨w2.heap.size, 5, none⟩ = some (.int .i64 u.ma) ∧ W.cell? ⟨w2.heap.size, 6, none⟩ = some (.bool u.lz) ∧ W.cell? ⟨w2.heap.size, 7, none⟩ = some (.slice uB u.kids.length ud))
          (first | (refine HKEEP.out _ ?_; (try go_split_ands); repeat (first | with_reducible assumption | with_reducible exact bl_refl _ | with_reducible refine bl_drew ?_ | with_reducible refine bl_alloc ?_ _)))
          (first
            | (go_at_call 15; go_split_ands; with_reducible refine (HSM1.out _ (by repeat (first | assumption | exact bl_refl _ | refine bl_drew ?_ | refine bl_alloc ?_ _))).mono ?_; rintro e w6 ⟨rfl, hb6⟩; have hbx6 : Below W3.heap.size W3 w6 := bl_trans (by repeat (first | assumption | exact bl_refl _ | refine bl_drew ?_ | refine bl_alloc ?_ _)) hb6)
            | (go_at_call 27; go_split_ands; with_reducible refine (HUN.out _ (bl_trans HBR.out (by repeat (first | assumption | exact bl_refl _ | refine bl_drew ?_ | refine bl_alloc ?_ _)))).mono ?_; rintro e w7 ⟨g, he, hb7, hown⟩; have hgw := own_rwat hown; obtain ⟨gA, gc, hge⟩ := rwat_len hgw; rw [hge] at he hgw; subst he; have hbx7 : Below W3.heap.size W3 w7 := bl_trans (by repeat (first | assumption | exact bl_refl _ | refine bl_drew ?_ | refine bl_alloc ?_ _)) hb7)
            | (go_at_call 15; go_split_ands; with_reducible refine (HSM2.out _ _ _ _ hgw (by repeat (first | exact bl_refl _ | refine bl_drew ?_ | refine bl_alloc ?_ _)) hbx7).mono ?_; rintro e w8 ⟨rfl, hb8⟩; have hbx8 : Below W3.heap.size W3 w8 := bl_trans (by repeat (first | assumption | exact bl_refl _ | refine bl_drew ?_ | refine bl_alloc ?_ _)) hb8)
            | (go_at_call 12; go_split_ands; with_reducible refine (awake14_any _).mono ?_; rintro e w10 ⟨rfl, hb10⟩; have hbx10 : Below W3.heap.size W3 w10 := bl_trans (by repeat (first | assumption | exact bl_refl _ | refine bl_drew ?_ | refine bl_alloc ?_ _)) hb10)
            | fail)
        all_goals
          have HB := hide (bl_trans HBW.out hbx10)
          clear hbx10
          go_wp2
          go_ret
          exact ⟨rfl, HB.out⟩
      · have HR1 := hide (fun W => read_any (⟨#[91, 94]⟩ ++ S ++ ⟨#[93]⟩) (by simp only [ByteArray.size_append]; show 2 + S.size + 1 ≤ _; omega) W _ (show readP (⟨#[91, 94]⟩ ++ S ++ ⟨#[93]⟩).data.toList = .ok (setX true (uniF (sortS (okU R)))) [] from by
          rw [ByteArray.toList_data_append, ByteArray.toList_data_append, E1, List.append_assoc, E4]; exact readP_class true I E3 hI))
        have HR2 := hide (fun W => read_any (⟨#[91, 94]⟩ ++ U ++ ⟨#[93]⟩) (by simp only [ByteArray.size_append]; show 2 + U.size + 1 ≤ _; omega) W _ (show readP (⟨#[91, 94]⟩ ++ U ++ ⟨#[93]⟩).data.toList = .ok (setX true (uniF (sortS (okU R)))) [] from by
          rw [ByteArray.toList_data_append, ByteArray.toList_data_append, E2, List.append_assoc, E4, ← uni_rev I]; exact readP_class true I.reverse (fun x hx => E3 x (List.mem_reverse.1 hx)) (by rw [List.length_reverse]; exact hI)))
        unfold RdPost at HR1 HR2
        have hsh : ∀ s ∈ R, Short s := fun s hs => by
          rw [E4] at hs
          obtain ⟨i, -, rfl⟩ := List.mem_map.1 hs
          unfold It.r
          exact ⟨by rw [bsC_size]; simp, by rw [bsC_size]; simp⟩
        have HRW := hide (own_rwat HROW.out)
        have HUN := hide (fun W (hb : Below wr.heap.size wr W) => union_any _ R W (rwat_below HRW.out hb) (by omega) hsh)
        have sz1 : S.size ≤ 30 := by omega
        have sz2 : U.size ≤ 30 := by omega
        clear E1 E2 E3 E4 hI hsh hS hU hR hk HE HROW
        go_wp2_with fail
        refine (HR1.out _).mono ?_
        rintro e w1 ⟨t, rfl, hb1, hrx1, -, her1⟩
        obtain ⟨tA, tc, tB, td, hrv1, hkv1, hv1⟩ := rx_vv hrx1
        rw [hv1]
        have HX1 := hide hrx1
        have HV1 := hide hv1
        have HE1 := hide her1
        have HBT1 := hide hb1
        have htc : ∀ j y9, ([.int .i64 t.k, .string t.ch, .bool t.nt, .slice tA t.rows.length tc, .int .i64 t.mi, .int .i64 t.ma, .bool t.lz, .slice tB t.kids.length td] : List Value)[j]? = some y9 → (w1.alloc (.cells #[.int .i64 t.k, .string t.ch, .bool t.nt, .slice tA t.rows.length tc, .int .i64 t.mi, .int .i64 t.ma, .bool t.lz, .slice tB t.kids.length td] 26)).cell? ⟨w1.heap.size, j, none⟩ = some y9 := ks_alloc (W := w1) (T := 26) (cs := [.int .i64 t.k, .string t.ch, .bool t.nt, .slice tA t.rows.length tc, .int .i64 t.mi, .int .i64 t.ma, .bool t.lz, .slice tB t.kids.length td]) rfl
        have HT1 := hide htc
        clear hb1 hrx1 her1 hrv1 hkv1 hv1 htc
        go_wp2_with fail
        refine (HR2.out _).mono ?_
        rintro e w2 ⟨u, rfl, hb2, hrx2, -, her2⟩
        obtain ⟨uA, uc, uB, ud, hrv2, hkv2, hv2⟩ := rx_vv hrx2
        rw [hv2]
        have HX2 := hide hrx2
        have HV2 := hide hv2
        have HE2 := hide her2
        obtain ⟨W3, hW3⟩ : ∃ W, w2.alloc (.cells #[.int .i64 u.k, .string u.ch, .bool u.nt, .slice uA u.rows.length uc, .int .i64 u.mi, .int .i64 u.ma, .bool u.lz, .slice uB u.kids.length ud] 26) = W := ⟨_, rfl⟩
        have h23 : Below w2.heap.size w2 W3 := by rw [← hW3]; exact bl_alloc (bl_refl w2) _
        have h13 := bl_trans (bl_alloc (bl_refl w1) (.cells #[.int .i64 t.k, .string t.ch, .bool t.nt, .slice tA t.rows.length tc, .int .i64 t.mi, .int .i64 t.ma, .bool t.lz, .slice tB t.kids.length td] 26)) (bl_trans hb2 h23)
        obtain ⟨x0, x1, x2, x3, x4, x5, x6, x7⟩ := (show W3.cell? ⟨w1.heap.size, 0, none⟩ = some (.int .i64 t.k) ∧ W3.cell? ⟨w1.heap.size, 1, none⟩ = some (.string t.ch) ∧ W3.cell? ⟨w1.heap.size, 2, none⟩ = some (.bool t.nt) ∧ W3.cell? ⟨w1.heap.size, 3, none⟩ = some (.slice tA t.rows.length tc) ∧ W3.cell? ⟨w1.heap.size, 4, none⟩ = some (.int .i64 t.mi) ∧ W3.cell? ⟨w1.heap.size, 5, none⟩ = some (.int .i64 t.ma) ∧ W3.cell? ⟨w1.heap.size, 6, none⟩ = some (.bool t.lz) ∧ W3.cell? ⟨w1.heap.size, 7, none⟩ = some (.slice tB t.kids.length td) from ⟨cell_later (bl_trans hb2 h23) (HT1.out 0 _ rfl), cell_later (bl_trans hb2 h23) (HT1.out 1 _ rfl), cell_later (bl_trans hb2 h23) (HT1.out 2 _ rfl), cell_later (bl_trans hb2 h23) (HT1.out 3 _ rfl), cell_later (bl_trans hb2 h23) (HT1.out 4 _ rfl), cell_later (bl_trans hb2 h23) (HT1.out 5 _ rfl), cell_later (bl_trans hb2 h23) (HT1.out 6 _ rfl), cell_later (bl_trans hb2 h23) (HT1.out 7 _ rfl)⟩)
        have huc : ∀ j y9, ([.int .i64 u.k, .string u.ch, .bool u.nt, .slice uA u.rows.length uc, .int .i64 u.mi, .int .i64 u.ma, .bool u.lz, .slice uB u.kids.length ud] : List Value)[j]? = some y9 → W3.cell? ⟨w2.heap.size, j, none⟩ = some y9 := by rw [← hW3]; exact ks_alloc (W := w2) (T := 26) (cs := [.int .i64 u.k, .string u.ch, .bool u.nt, .slice uA u.rows.length uc, .int .i64 u.mi, .int .i64 u.ma, .bool u.lz, .slice uB u.kids.length ud]) rfl
        obtain ⟨y0, y1, y2, y3, y4, y5, y6, y7⟩ := (show W3.cell? ⟨w2.heap.size, 0, none⟩ = some (.int .i64 u.k) ∧ W3.cell? ⟨w2.heap.size, 1, none⟩ = some (.string u.ch) ∧ W3.cell? ⟨w2.heap.size, 2, none⟩ = some (.bool u.nt) ∧ W3.cell? ⟨w2.heap.size, 3, none⟩ = some (.slice uA u.rows.length uc) ∧ W3.cell? ⟨w2.heap.size, 4, none⟩ = some (.int .i64 u.mi) ∧ W3.cell? ⟨w2.heap.size, 5, none⟩ = some (.int .i64 u.ma) ∧ W3.cell? ⟨w2.heap.size, 6, none⟩ = some (.bool u.lz) ∧ W3.cell? ⟨w2.heap.size, 7, none⟩ = some (.slice uB u.kids.length ud) from ⟨huc 0 _ rfl, huc 1 _ rfl, huc 2 _ rfl, huc 3 _ rfl, huc 4 _ rfl, huc 5 _ rfl, huc 6 _ rfl, huc 7 _ rfl⟩)
        have HRT := hide (rx_below HX1.out h13)
        have HRU := hide (rx_below HX2.out h23)
        have HBR := hide (bl_trans HBT1.out h13)
        have HBW := hide (bl_trans HBL.out (bl_trans HBT1.out h13))
        have HSM1 := hide (fun (W : World) (hb : Below W3.heap.size W3 W) => (show Calls Try.prog 15 #[.agg #[.int .i64 t.k, .string t.ch, .bool t.nt, .slice tA t.rows.length tc, .int .i64 t.mi, .int .i64 t.ma, .bool t.lz, .slice tB t.kids.length td], .agg #[.int .i64 u.k, .string u.ch, .bool u.nt, .slice uA u.rows.length uc, .int .i64 u.mi, .int .i64 u.ma, .bool u.lz, .slice uB u.kids.length ud]] W (fun e w' => e = .returned (.bool true) ∧ Below W.heap.size W w') from by
          have hh := same_any HRT.out HRU.out W hb
          rw [sameM_of (HE1.out.trans HE2.out.symm), HV1.out, HV2.out] at hh
          exact hh))
        obtain ⟨UU, hUU⟩ : ∃ x, uniF (sortS (okU R)) = x := ⟨_, rfl⟩
        rw [hUU] at HUN HE1
        have HSM2 := hide (fun (V W : World) (gA : Option Addr) (gc : Nat) (hr : RwAt V (.slice gA UU.length gc) UU) (h1 : Below V.heap.size V W) (h3 : Below W3.heap.size W3 V) => (show Calls Try.prog 15 #[.agg #[.int .i64 t.k, .string t.ch, .bool t.nt, .slice tA t.rows.length tc, .int .i64 t.mi, .int .i64 t.ma, .bool t.lz, .slice tB t.kids.length td], .agg #[.int .i64 4, .string ⟨#[]⟩, .bool true, .slice gA UU.length gc, .int .i64 0, .int .i64 0, .bool false, .slice none 0 0]] W (fun e w' => e = .returned (.bool true) ∧ Below W.heap.size W w') from by
          have hz : RxAt V (.mk 4 ⟨#[]⟩ true (.slice gA UU.length gc) UU 0 0 false (.slice none 0 0) []) := .mk _ hr (.inl ⟨rfl, rfl⟩) (fun i hi => absurd hi (Nat.not_lt_zero _))
          have hh := same_any (rx_below HRT.out h3) hz W h1
          rw [sameM_of (HE1.out.trans (by rw [er_eq]; rfl)), HV1.out] at hh
          exact hh))
        clear hb2 hrx2 her2 hrv2 hkv2 hv2 h23 h13 huc hUU
        have HKEEP := hide (show ∀ W, Below W3.heap.size W3 W → (Below W3.heap.size W3 W ∧ W.cell? ⟨w1.heap.size, 0, none⟩ = some (.int .i64 t.k) ∧ W.cell? ⟨w1.heap.size, 1, none⟩ = some (.string t.ch) ∧ W.cell? ⟨w1.heap.size, 2, none⟩ = some (.bool t.nt) ∧ W.cell? ⟨w1.heap.size, 3, none⟩ = some (.slice tA t.rows.length tc) ∧ W.cell? ⟨w1.heap.size, 4, none⟩ = some (.int .i64 t.mi) ∧ W.cell? ⟨w1.heap.size, 5, none⟩ = some (.int .i64 t.ma) ∧ W.cell? ⟨w1.heap.size, 6, none⟩ = some (.bool t.lz) ∧ W.cell? ⟨w1.heap.size, 7, none⟩ = some (.slice tB t.kids.length td) ∧ W.cell? ⟨w2.heap.size, 0, none⟩ = some (.int .i64 u.k) ∧ W.cell? ⟨w2.heap.size, 1, none⟩ = some (.string u.ch) ∧ W.cell? ⟨w2.heap.size, 2, none⟩ = some (.bool u.nt) ∧ W.cell? ⟨w2.heap.size, 3, none⟩ = some (.slice uA u.rows.length uc) ∧ W.cell? ⟨w2.heap.size, 4, none⟩ = some (.int .i64 u.mi) ∧ W.cell? ⟨w2.heap.size, 5, none⟩ = some (.int .i64 u.ma) ∧ W.cell? ⟨w2.heap.size, 6, none⟩ = some (.bool u.lz) ∧ W.cell? ⟨w2.heap.size, 7, none⟩ = some (.slice uB u.kids.length ud)) from fun W hb => ⟨hb, cell_later hb x0, cell_later hb x1, cell_later hb x2, cell_later hb x3, cell_later hb x4, cell_later hb x5, cell_later hb x6, cell_later hb x7, cell_later hb y0, cell_later hb y1, cell_later hb y2, cell_later hb y3, cell_later hb y4, cell_later hb y5, cell_later hb y6, cell_later hb y7⟩)
        go_wp2_with fail
        go_region_held3 (fun W => Below W3.heap.size W3 W ∧ W.cell? ⟨w1.heap.size, 0, none⟩ = some (.int .i64 t.k) ∧ W.cell? ⟨w1.heap.size, 1, none⟩ = some (.string t.ch) ∧ W.cell? ⟨w1.heap.size, 2, none⟩ = some (.bool t.nt) ∧ W.cell? ⟨w1.heap.size, 3, none⟩ = some (.slice tA t.rows.length tc) ∧ W.cell? ⟨w1.heap.size, 4, none⟩ = some (.int .i64 t.mi) ∧ W.cell? ⟨w1.heap.size, 5, none⟩ = some (.int .i64 t.ma) ∧ W.cell? ⟨w1.heap.size, 6, none⟩ = some (.bool t.lz) ∧ W.cell? ⟨w1.heap.size, 7, none⟩ = some (.slice tB t.kids.length td) ∧ W.cell? ⟨w2.heap.size, 0, none⟩ = some (.int .i64 u.k) ∧ W.cell? ⟨w2.heap.size, 1, none⟩ = some (.string u.ch) ∧ W.cell? ⟨w2.heap.size, 2, none⟩ = some (.bool u.nt) ∧ W.cell? ⟨w2.heap.size, 3, none⟩ = some (.slice uA u.rows.length uc) ∧ W.cell? ⟨w2.heap.size, 4, none⟩ = some (.int .i64 u.mi) ∧ W.cell? ⟨w2.heap.size, 5, none⟩ = some (.int .i64 u.ma) ∧ W.cell? ⟨w2.heap.size, 6, none⟩ = some (.bool u.lz) ∧ W.cell? ⟨w2.heap.size, 7, none⟩ = some (.slice uB u.kids.length ud))
          (first | (refine HKEEP.out _ ?_; (try go_split_ands); repeat (first | with_reducible assumption | with_reducible exact bl_refl _ | with_reducible refine bl_drew ?_ | with_reducible refine bl_alloc ?_ _)))
          (first
            | (go_at_call 15; go_split_ands; with_reducible refine (HSM1.out _ (by repeat (first | assumption | exact bl_refl _ | refine bl_drew ?_ | refine bl_alloc ?_ _))).mono ?_; rintro e w6 ⟨rfl, hb6⟩; have hbx6 : Below W3.heap.size W3 w6 := bl_trans (by repeat (first | assumption | exact bl_refl _ | refine bl_drew ?_ | refine bl_alloc ?_ _)) hb6)
            | (go_at_call 27; go_split_ands; with_reducible refine (HUN.out _ (bl_trans HBR.out (by repeat (first | assumption | exact bl_refl _ | refine bl_drew ?_ | refine bl_alloc ?_ _)))).mono ?_; rintro e w7 ⟨g, he, hb7, hown⟩; have hgw := own_rwat hown; obtain ⟨gA, gc, hge⟩ := rwat_len hgw; rw [hge] at he hgw; subst he; have hbx7 : Below W3.heap.size W3 w7 := bl_trans (by repeat (first | assumption | exact bl_refl _ | refine bl_drew ?_ | refine bl_alloc ?_ _)) hb7)
            | (go_at_call 15; go_split_ands; with_reducible refine (HSM2.out _ _ _ _ hgw (by repeat (first | exact bl_refl _ | refine bl_drew ?_ | refine bl_alloc ?_ _)) hbx7).mono ?_; rintro e w8 ⟨rfl, hb8⟩; have hbx8 : Below W3.heap.size W3 w8 := bl_trans (by repeat (first | assumption | exact bl_refl _ | refine bl_drew ?_ | refine bl_alloc ?_ _)) hb8)
            | (go_at_call 12; go_split_ands; with_reducible refine (awake14_any _).mono ?_; rintro e w10 ⟨rfl, hb10⟩; have hbx10 : Below W3.heap.size W3 w10 := bl_trans (by repeat (first | assumption | exact bl_refl _ | refine bl_drew ?_ | refine bl_alloc ?_ _)) hb10)
            | fail)
        all_goals
          have HB := hide (bl_trans HBW.out hbx10)
          clear hbx10
          go_wp2
          go_ret
          exact ⟨rfl, HB.out⟩

set_option maxRecDepth 100000 in
theorem lifted (os : Os) (started : os.Started) (H : Type) (enc : TypeId × Value → H) :
    ReturnsInHanded {} Try.checked os 10 .any (Rows.readClassSpec.pre6 enc Try.prog Try.f10 Rows.readClassRow.domain false) (Rows.readClassSpec.post enc Try.prog Try.f10 false true false false) := by
  refine returnsInHanded_of_change (C := Try.checked) own started (by kernel_rfl) Try.func10
    (ChangeSpec.witness6 (enc := enc) (C := Try.checked) false ⟨#[], #[.slice none 0 0, .bool false], []⟩ 8 (by kernel_rfl) (by kernel_rfl) (by kernel_rfl) (by kernel_rfl)) ?_
  intro W base args ds gs before hval0 hW hcnd _
  have hval : ∀ (j : Nat) t v, Try.f10.params[j]? = some t → args[j]? = some v → Value.okWide Try.prog W .any base t v := hval0
  have hW' := hW
  obtain ⟨p, q, hA0, hV, rfl, hfz, hnd⟩ := hW
  have hA : DataW.TrodAll enc Try.prog W 0 (fun _ => true) true Try.f10.params.toList args.toList ds p := hA0
  rw [Try.params10] at hA hval
  obtain ⟨v0, vs0, d0, ds0, p0, q0, hargs, rfl, rfl, h0, r0⟩ := trodAll_cons hA
  obtain ⟨v1, vs1, d1, ds1, p1, q1, rfl, rfl, rfl, h1, r1⟩ := trodAll_cons r0
  obtain ⟨rfl, rfl, rfl⟩ := trodAll_nil r1
  obtain rfl : args = #[v0, v1] := by cases args; simp_all
  obtain ⟨rfl, rfl⟩ := trodVars_none hV
  have k0 := h0
  have lt0 : ∀ x ∈ p0, x.block < W.heap.size := by obtain ⟨m, hm⟩ := k0; exact DataW.trod_lt m _ _ _ hm
  obtain ⟨l0, w0, b0⟩ := open_pairs (hval 0 44 v0 rfl rfl) h0
  have k1 := h1
  have lt1 : ∀ x ∈ p1, x.block < W.heap.size := by obtain ⟨m, hm⟩ := k1; exact DataW.trod_lt m _ _ _ hm
  obtain ⟨a1, rfl, hd1, hp1⟩ := open_bool Try.underlying4 (hval 1 4 v1 rfl rfl) h1
  clear hA0 hval0
  refine (walk v0 l0 a1 W w0 b0).mono fun e W' ⟨he, bel⟩ => ?_
  subst he
  exact ⟨_, rfl, _, _, _, [], _, [], hW', trodAll_mk1 (shut_bool Try.underlying4 _), (trodAll_cons_mk (Below.trod laidOut (by kernel_rfl) (of_decide_eq_true (by kernel_rfl)) k0 bel lt0) (trodAll_cons_mk (Below.trod laidOut (by kernel_rfl) (of_decide_eq_true (by kernel_rfl)) k1 bel lt1) trodAll_mk0)), rfl, bel.frame _, fun h => by cases h⟩

theorem over : Rows.readClassRow.holds Try.pinned (OpenSpec.ofChange Rows.readClassSpec) :=
  OpenClaim.holds_of_wide 10 Try.f10 rfl rfl rfl rfl rfl rfl rfl ⟨rfl, rfl, rfl, rfl, rfl⟩ rfl rfl rfl rfl rfl (by kernel_rfl) Try.func10 (by kernel_rfl)
    (of_decide_eq_true (by kernel_rfl)) (by unfold Func.isWrapper; first | (rw [if_pos (by decide +kernel)]; kernel_rfl) | (rw [if_neg (by decide +kernel)]; exact ⟨rfl, rfl⟩))
    (fun os started H enc _ => lifted os started H enc)

theorem proved : Rows.ReadClassSaid := over
end Go.Proofs.Ytcgphknnnjpbkaa.readClass
