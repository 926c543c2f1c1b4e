/- Contracts: a backslash that escapes is passed, a text is taken (spot.Spot.Escape, TakeAll). Condition: the place is in the text. -/
import Derived.Test.YtbphckblbbbakaaDoorSpotB
import Derived.Test.YtbphckblbbbakaaDoorLay
import Derived.Lib.IndexAny
namespace Go.Proofs.YtbphckblbbbakaaDoor
open Go.ChangeShapes Go.WideShapes Go.ChangeAt Go.RowKit Go.Shelf
attribute [local go_sem ↓] Go.wp_at_zero Go.wp_at_succ
set_option maxRecDepth 100000
set_option linter.unusedVariables false
theorem idx_any (E : ByteArray) (c : Int) (x : UInt8) (hc : c = (x.toNat : Int)) (r : Bool) (hr : E.data.toList.contains x = r) : ∃ i : Int, decide (0 ≤ i) = r ∧ ∀ w : World, Calls Tryd.prog 35 #[.string E, .int .u8 c] w fun e w' => e = .returned (.int .i64 i) ∧ w = w' := by
  subst hc
  refine ⟨_, ?_, fun w => (Any.strings_IndexByte idxB E _ w).mono fun e w' h => ⟨h.1, h.2.symm⟩⟩
  rw [← Lib.contains_iff_indexByte, ← hr]
  simp
theorem pfx_any (s p : ByteArray) (r : Bool) (hr : p.data.toList.isPrefixOf s.data.toList = r) (w : World) : Calls Tryd.prog 76 #[.string s, .string p] w fun e w' => e = .returned (.bool r) ∧ w = w' :=
  (Any.strings_HasPrefix hasP s p w).mono fun e w' h => ⟨by rw [h.1, ← hr]; rfl, h.2.symm⟩
/-- Where a place is behind a backslash that escapes. -/
def escK (s : ByteArray) (E : List UInt8) (k : Nat) : Nat := if h : k + 1 < s.size then (if s[k] = 92 ∧ s[k + 1] ∈ E then k + 1 else k) else k
theorem drop_at (s : ByteArray) (k : Nat) (h : k < s.size) : s.data.toList.drop k = s[k] :: s.data.toList.drop (k + 1) :=
  List.drop_eq_getElem_cons (l := s.data.toList) (i := k) (by simpa using h)
theorem esc_drop (s : ByteArray) (E : List UInt8) (k : Nat) : s.data.toList.drop (escK s E k) = escF E (s.data.toList.drop k) := by
  unfold escK
  split
  · rename_i h
    rw [drop_at s k (by omega), drop_at s (k + 1) h]
    by_cases h1 : s[k] = 92
    · rw [h1, show ∀ d l, escF E (92 :: d :: l) = if d ∈ E then d :: l else 92 :: d :: l from fun _ _ => rfl]
      by_cases h2 : s[k + 1] ∈ E
      · rw [if_pos h2, if_pos ⟨rfl, h2⟩, ← drop_at s (k + 1) h]
      · rw [if_neg h2, if_neg (fun q => h2 q.2), ← drop_at s (k + 1) h, ← h1, ← drop_at s k (by omega)]
    · rw [if_neg (fun q => h1 q.1), ← drop_at s (k + 1) h, drop_at s k (by omega)]
      unfold escF
      split
      · rename_i hq; injection hq with hq _; exact absurd hq h1
      · rfl
  · rename_i h
    by_cases h1 : k < s.size
    · rw [drop_at s k h1]
      have : s.data.toList.drop (k + 1) = [] := List.drop_eq_nil_of_le (by simp; omega)
      rw [this]
      unfold escF
      split
      · rename_i hq; injection hq with _ hq; cases hq
      · rfl
    · have : s.data.toList.drop k = [] := List.drop_eq_nil_of_le (by simp; omega)
      rw [this]; rfl
theorem escK_le (s : ByteArray) (E : List UInt8) (k : Nat) : k ≤ escK s E k ∧ escK s E k ≤ k + 1 ∧ (k < s.size → escK s E k < s.size) := by
  unfold escK; split
  · split <;> omega
  · omega
attribute [local go_sem] later_cell later_frozen
def EscPost (w : World) (b o k : Nat) (e : Ending) (w' : World) : Prop := e = .returned (.tuple #[]) ∧ Mvd w w' b o k
set_option maxHeartbeats 2000000 in
theorem spot_escape {w : World} {b o : Nat} {s : ByteArray} {k : Nat} (h : SpAtC w b o s k) (hf : w.frozen? ⟨b, o + 1, none⟩ = false) (E : ByteArray) (hk : k < s.size) (hs : s.size ≤ 1000000) (k' : Nat) (hk' : escK s E.data.toList k = k') :
    Calls Tryd.prog 33 #[.pointer (some ⟨b, o, none⟩), .string E] w (EscPost w b o k') := by
  have hbl := World.block_lt_of_cell? _ _ h.1
  have HS := hide h
  have hf1 := hide hf
  obtain ⟨r, hr⟩ : ∃ r, hasB s k 92 = r := ⟨_, rfl⟩
  have HD := hide (fun (W : World) (hb : Below w.heap.size w W) => spot_has (spot_bl HS.out hb) 92 r hr hs)
  obtain ⟨h1, h2⟩ := h
  have e5 : IntKind.i64.wrap ((k : Int) + 1) = (k : Int) + 1 := by rw [IntKind.wrap_i64]; omega
  have i1 : (0 : Int) ≤ (k : Int) + 1 := by omega
  unfold hasB at hr
  rw [dif_pos hk] at hr
  unfold escK at hk'
  have h92 : r = true ↔ s[k] = 92 := by
    rw [← hr, beq_iff_eq]
    constructor
    · intro q; apply UInt8.toNat_inj.1; show s[k].toNat = 92; omega
    · intro q; rw [q]; rfl
  cases r
  · have hne : ¬ s[k] = 92 := fun q => by cases h92.2 q
    have hk2 : k = k' := by
      rw [← hk']; split
      · rw [if_neg (fun q => hne q.1)]
      · rfl
    subst hk2
    clear hk' hr h92 hne
    go_enter Tryd.func33, Tryd.ntmps33
    go_wp2
    refine wp_region_later (by kernel_rfl) (by kernel_rfl) ?_
    repeat (go_big_quiet_step (first
      | (go_at_call 30; exact later_call (HD.out _ (Later.below _)))
      | exact rfl))
    refine wpQuiet_nil ?_
    rintro w9 ⟨⟨_, hb9⟩, rfl⟩
    go_wp2
    go_end0
    exact ⟨rfl, mvd_bl hb9 HS.out.2⟩
  · have he : s[k] = 92 := h92.1 rfl
    by_cases hk1 : k + 1 < s.size
    · rw [dif_pos hk1] at hk'
      have g1 : decide ((k : Int) + 1 < (s.size : Int)) = true := decide_eq_true (by omega)
      have i2 : (k : Int) + 1 < (s.size : Int) := by omega
      obtain ⟨m, hm⟩ : ∃ m, E.data.toList.contains s[k + 1] = m := ⟨_, rfl⟩
      obtain ⟨i, hi, hic⟩ := idx_any E _ s[k + 1] rfl m hm
      have HI := hide hic
      have hmm : m = true ↔ s[k + 1] ∈ E.data.toList := by rw [← hm]; simp
      have hk2 : k' = if m = true then k + 1 else k := by
        rw [← hk']
        cases m
        · rw [if_neg (fun q => by cases hmm.2 q.2), if_neg (by decide)]
        · rw [if_pos ⟨he, hmm.1 rfl⟩, if_pos rfl]
      clear hk' hr h92 he hmm hm hic
      subst hk2
      obtain ⟨x, hx⟩ : ∃ x, s[k + 1] = x := ⟨_, rfl⟩
      rw [hx] at HI
      have hxx : (s[k + 1].toNat : Int) = x.toNat := by rw [hx]
      clear hx
      cases m
      · go_enter Tryd.func33, Tryd.ntmps33
        go_wp2
        refine wp_region_later (by kernel_rfl) (by kernel_rfl) ?_
        repeat (go_big_quiet_step (first
          | (go_at_call 30; exact later_call (HD.out _ (Later.below _)))
          | (go_at_call 35; exact later_call_same (HI.out _))
          | exact rfl))
        refine wpQuiet_nil ?_
        rintro w9 ⟨⟨_, hb9⟩, rfl⟩
        go_wp2
        go_end0
        exact ⟨rfl, mvd_bl hb9 HS.out.2⟩
      · go_enter Tryd.func33, Tryd.ntmps33
        go_wp2
        refine wp_region_later (by kernel_rfl) (by kernel_rfl) ?_
        repeat (go_big_quiet_step (first
          | (go_at_call 30; exact later_call (HD.out _ (Later.below _)))
          | (go_at_call 35; exact later_call_same (HI.out _))
          | exact rfl))
        refine wpQuiet_nil ?_
        rintro w9 ⟨⟨_, hb9⟩, rfl⟩
        have HB9 := hide hb9
        have hf2 := (hb9.frozen (p := ⟨b, o + 1, none⟩) hbl).trans hf1.out
        have h2' := cell_later hb9 h2
        clear hb9
        go_wp2
        go_end0
        exact ⟨rfl, (mvd_bl HB9.out HS.out.2).set (k + 1)⟩
    · rw [dif_neg hk1] at hk'
      subst hk'
      have g1 : decide ((k : Int) + 1 < (s.size : Int)) = false := decide_eq_false (by omega)
      have g1' : decide (k + 1 < s.size) = false := decide_eq_false (by omega)
      clear hr h92 he
      go_enter Tryd.func33, Tryd.ntmps33
      go_wp2
      refine wp_region_later (by kernel_rfl) (by kernel_rfl) ?_
      repeat (go_big_quiet_step (first
        | (go_at_call 30; exact later_call (HD.out _ (Later.below _)))
        | (go_at_call 35; exact later_call_same (HI.out _))
        | exact rfl))
      refine wpQuiet_nil ?_
      rintro w9 ⟨⟨_, hb9⟩, rfl⟩
      go_wp2
      go_end0
      exact ⟨rfl, mvd_bl hb9 HS.out.2⟩
def AllPost (w : World) (b o k n : Nat) (r : Bool) (e : Ending) (w' : World) : Prop := e = .returned (.bool r) ∧ Mvd w w' b o (if r = true then k + n else k)
theorem drop_ext (s : ByteArray) (k : Nat) : (s.extract k s.size).data.toList = s.data.toList.drop k := by
  rw [ByteArray.data_extract]
  simp only [Array.toList_extract, List.extract_eq_take_drop]
  exact List.take_of_length_le (by simp)
set_option maxHeartbeats 2000000 in
theorem spot_all {w : World} {b o : Nat} {s : ByteArray} {k : Nat} (h : SpAtC w b o s k) (hf : w.frozen? ⟨b, o + 1, none⟩ = false) (p : ByteArray) (hk : k ≤ s.size) (hs : s.size ≤ 1000000) (hp : p.size ≤ 1000000) (r : Bool) (hr : p.data.toList.isPrefixOf (s.data.toList.drop k) = r) :
    Calls Tryd.prog 68 #[.pointer (some ⟨b, o, none⟩), .string p] w (AllPost w b o k p.size r) := by
  have hbl := World.block_lt_of_cell? _ _ h.1
  have HS := hide h
  have hf1 := hide hf
  obtain ⟨h1, h2⟩ := h
  have HI := hide (fun W => pfx_any (s.extract k s.size) p r (by rw [drop_ext]; exact hr) W)
  have e5 : IntKind.i64.wrap ((k : Int) + (p.size : Int)) = (k : Int) + (p.size : Int) := by rw [IntKind.wrap_i64]; omega
  have i1 : (0 : Int) ≤ (k : Int) := by omega
  have i2 : (k : Int) ≤ (s.size : Int) := by omega
  clear hr
  cases r
  all_goals
    go_enter Tryd.func68, Tryd.ntmps68
    go_wp2
    refine wp_region_later (by kernel_rfl) (by kernel_rfl) ?_
    repeat (go_big_quiet_step (first
      | (go_at_call 76; exact later_call_same (HI.out _))
      | exact rfl))
    refine wpQuiet_nil ?_
    rintro w9 ⟨⟨_, hb9⟩, rfl⟩
    have HB9 := hide hb9
    have hf2 := (hb9.frozen (p := ⟨b, o + 1, none⟩) hbl).trans hf1.out
    have h2' := cell_later hb9 h2
    clear hb9
    go_wp2
    go_ret
    first
      | exact ⟨rfl, mvd_bl HB9.out HS.out.2⟩
      | exact ⟨rfl, (mvd_bl HB9.out HS.out.2).set (k + p.size)⟩
end Go.Proofs.YtbphckblbbbakaaDoor
