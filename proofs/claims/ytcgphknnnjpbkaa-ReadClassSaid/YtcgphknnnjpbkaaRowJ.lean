/- Contracts: what is too much; rows that are some; the named classes; the layer's awake. No condition but short texts and slices. -/
import Derived.Test.YtcgphknnnjpbkaaRowI
import Derived.Test.YtcgphknnnjpbkaaRowG
import Derived.Test.YtcgphknnnjpbkaaLong
namespace Go.Proofs.Ytcgphknnnjpbkaa
open Go.ChangeShapes Go.WideShapes Go.ChangeAt Go.RowKit
open SetM
attribute [local go_sem ↓] Go.wp_at_zero Go.wp_at_succ
attribute [local go_sem] later_cell later_frozen lt_bl le_bl
theorem long2_no (m : Int) (s1 s2 : ByteArray) (h : longL m [s1, s2] = false) : (s1.size : Int) < m ∧ (s2.size : Int) < m - s1.size - 1 := by
  unfold longL at h
  split at h
  · cases h
  · unfold longL at h
    split at h
    · cases h
    · omega
def MuchOk (l : List Rw) (mn n : Nat) : Prop := l.length ≤ mn ∧ ∀ s ∈ l, s.1.size ≤ n ∧ s.2.size ≤ n
def MuchPost (l : List Rw) (mn n : Nat) (w : World) (e : Ending) (w' : World) : Prop := ∃ r, e = .returned (.bool r) ∧ Below w.heap.size w w' ∧ Hid (r = false → MuchOk l mn n)
def MRel (l : List Rw) (n : Nat) (w : World) (m i : Value) (wr : World) : Prop :=
  ∃ (k : Nat) (m' : Int), i = .int .i64 k ∧ m = .int .i64 m' ∧ k ≤ l.length ∧ 0 ≤ m' ∧ m' ≤ n ∧ Hid (∀ j (hj : j < l.length), j < k → l[j].1.size ≤ n ∧ l[j].2.size ≤ n) ∧ Below w.heap.size w wr
theorem bl_d (a b : ByteArray) : bl a b = decide (a.data.toList < b.data.toList) := by
  rw [Bool.eq_iff_iff, bl_iff]; simp
theorem rowB_ok {s : Rw} (h : rowB s = true) : properB s.1.data.toList = true ∧ properB s.2.data.toList = true ∧ okR s := by
  unfold rowB at h
  simp only [Bool.and_eq_true, Bool.not_eq_true'] at h
  exact ⟨h.1.1, h.1.2, h.2⟩
theorem ok_rowB {s : Rw} (h1 : properB s.1.data.toList = true) (h2 : properB s.2.data.toList = true) (h3 : okR s) : rowB s = true := by
  unfold rowB; rw [h1, h2, show bl s.2 s.1 = false from h3]; rfl
theorem mayF_norm (l : List Rw) (h : mayF l = true) : Norm l := by
  refine ⟨fun s hs => ?_, ?_⟩
  · obtain ⟨i, hi, rfl⟩ := List.getElem_of_mem hs
    exact (rowB_ok ((mayF_at l).1 h i hi).1).2.2
  · have hat := (mayF_at l).1 h
    refine List.pairwise_iff_getElem.2 (fun i j hi hj hij => ?_)
    obtain ⟨d, rfl⟩ : ∃ d, j = i + 1 + d := ⟨j - i - 1, by omega⟩
    clear hij
    induction d with
    | zero => exact (hat (i + 1) hj).2 i rfl
    | succ d ih =>
      have h1 := ih (by omega)
      have h2 := (hat (i + 1 + (d + 1)) hj).2 (i + 1 + d) (by omega)
      have h3 := (rowB_ok (hat (i + 1 + d) (by omega)).1).2.2
      exact SetM.bl_trans (bl_lt_le h1 h3) h2
theorem norm_mayF (l : List Rw) (h : Norm l) (hr : ∀ s ∈ l, rowB s = true) : mayF l = true := by
  refine (mayF_at l).2 (fun i hi => ⟨hr _ (List.getElem_mem hi), fun j hj => ?_⟩)
  subst hj
  exact (List.pairwise_iff_getElem.1 h.apart) j (j + 1) (by omega) hi (by omega)
theorem okL_self (l : List Rw) (hr : ∀ s ∈ l, rowB s = true) : okU l = l := List.filter_eq_self.2 hr
theorem okL_row (l : List Rw) : ∀ s ∈ okU l, rowB s = true := fun _ hs => (List.mem_filter.1 hs).2
theorem union_may (l : List Rw) : mayF (uniF (sortS (okU l))) = true := by
  have hok : ∀ s ∈ sortS (okU l), rowB s = true := fun s hs => okL_row l s ((sortS_perm _).mem_iff.1 hs)
  have hn := uni_norm _ (fun _ hs => (rowB_ok (hok _ hs)).2.2) (sortS_sorted (okU l))
  refine norm_mayF _ hn (fun s hs => ?_)
  have hp := uni_all _ (fun _ hs => (rowB_ok (hok _ hs)).2.2) (sortS_sorted (okU l)) (fun c => properB c.data.toList = true) (fun _ hs => ⟨(rowB_ok (hok _ hs)).1, (rowB_ok (hok _ hs)).2.1⟩) s hs
  exact ok_rowB hp.1 hp.2 (hn.valid s hs)
theorem union_self (l : List Rw) (h : mayF l = true) : uniF (sortS (okU l)) = l := by
  have hr : ∀ s ∈ l, rowB s = true := fun s hs => by
    obtain ⟨i, hi, rfl⟩ := List.getElem_of_mem hs
    exact ((mayF_at l).1 h i hi).1
  have hn := mayF_norm l h
  rw [okL_self l hr, sortS_eq (List.Perm.refl l) (norm_sorted l hn), uni_self l hn]
theorem union_in (l : List Rw) (c : ByteArray) : inB (uniF (sortS (okU l))) c = inB (okU l) c := by
  have hok : ∀ s ∈ sortS (okU l), okR s := fun s hs => (rowB_ok (okL_row l s ((sortS_perm _).mem_iff.1 hs))).2.2
  rw [uni_in _ hok (sortS_sorted _), Bool.eq_iff_iff, inB_iff, inB_iff]
  simp only [(sortS_perm (okU l)).mem_iff]
theorem union_short (l : List Rw) (n : Nat) (h : ∀ s ∈ l, s.1.size ≤ n ∧ s.2.size ≤ n) : ∀ s ∈ uniF (sortS (okU l)), s.1.size ≤ n ∧ s.2.size ≤ n :=
  uni_all _ (fun _ hs => (rowB_ok (okL_row l _ ((sortS_perm _).mem_iff.1 hs))).2.2) (sortS_sorted (okU l)) (fun c => c.size ≤ n) (fun _ hs => h _ ((List.mem_filter.1 ((sortS_perm _).mem_iff.1 hs)).1))
theorem union_len (l : List Rw) : (uniF (sortS (okU l))).length ≤ l.length := by
  have h1 := uniF_le (sortS (okU l))
  rw [sortS_len] at h1
  have h2 := List.length_filter_le rowB l
  unfold okU at *; omega
theorem lit_rwat (w : World) (b : Nat) (l : List Rw) (hm : l.length ≤ 1000) (h : ∀ i (h : i < l.length), w.cell? ⟨b, i * 2, none⟩ = some (.string l[i].1) ∧ w.cell? ⟨b, i * 2 + 1, none⟩ = some (.string l[i].2)) :
    RwAt w (.slice (some ⟨b, 0, none⟩) l.length l.length) l :=
  .inr ⟨_, _, rfl, Nat.le_refl _, by unfold maxLen; omega, fun i hi => by rw [addr_add, addr_add, Nat.zero_add, Nat.zero_add]; exact h i hi⟩
theorem alloc_rwat (w : World) (l : List Rw) (hm : l.length ≤ 1000) : RwAt (w.alloc (.cells (flatR l).toArray 47)) (.slice (some ⟨w.heap.size, 0, none⟩) l.length l.length) l :=
  lit_rwat _ _ l hm fun i hi => by
    have h1 := World.cell?_alloc_mark w (flatR l).toArray 47 (0, 0) (i * 2)
    have h2 := World.cell?_alloc_mark w (flatR l).toArray 47 (0, 0) (i * 2 + 1)
    have hf := flatR_at l i hi
    exact ⟨by rw [h1, ← hf.1]; simp, by rw [h2, ← hf.2]; simp⟩
def rD : List Rw := [(⟨#[48]⟩, ⟨#[57]⟩)]
def rW : List Rw := [(⟨#[48]⟩, ⟨#[57]⟩), (⟨#[65]⟩, ⟨#[90]⟩), (⟨#[95]⟩, ⟨#[95]⟩), (⟨#[97]⟩, ⟨#[122]⟩)]
def rS : List Rw := [(⟨#[9]⟩, ⟨#[13]⟩), (⟨#[32]⟩, ⟨#[32]⟩)]
def namR (c : Int) : List Rw := if c = 100 then rD else if c = 119 then rW else if c = 115 then rS else []
def namB (c : Int) : Bool := decide (c = 100 ∨ c = 119 ∨ c = 115)
theorem may_rW : mayF rW = true := by
  simp only [rW, mayF, rowB, bl_d]; decide +kernel
theorem may_rD : mayF rD = true := by
  simp only [rD, mayF, rowB, bl_d]; decide +kernel
theorem may_rS : mayF rS = true := by
  simp only [rS, mayF, rowB, bl_d]; decide +kernel
theorem nam_may (c : Int) : mayF (namR c) = true := by
  unfold namR
  split
  · exact may_rD
  · split
    · exact may_rW
    · split
      · exact may_rS
      · rfl
def NamPost (L : List Rw) (b : Bool) (w : World) (e : Ending) (w' : World) : Prop := ∃ v, e = .returned (.tuple #[v, .bool b]) ∧ Below w.heap.size w w' ∧ RwAt w' v L
theorem nam_alloc (L : List Rw) (n : Nat) (b : Bool) (w : World) (hl : L.length = n) (hn : n ≤ 1000) : NamPost L b w (.returned (.tuple #[.slice (some ⟨w.heap.size, 0, none⟩) n n, .bool b])) (w.alloc (.cells (flatR L).toArray 47)) := by
  subst hl; exact ⟨_, rfl, bl_alloc (bl_refl w) _, alloc_rwat w L hn⟩
set_option maxRecDepth 100000 in
set_option maxHeartbeats 2000000 in
theorem named_any (c : Int) (w : World) : Calls Try.prog 23 #[.int .u8 c] w (NamPost (namR c) (namB c) w) := by
  by_cases h1 : c = 100
  · subst h1
    have e1 : namR 100 = rD := rfl
    have e2 : namB 100 = true := rfl
    rw [e1, e2]
    have H := hide (nam_alloc rD 1 true w rfl (by omega))
    clear e1 e2
    go_enter Try.func23, Try.ntmps23
    go_wp2
    go_ret2
    exact H.out
  · by_cases h2 : c = 119
    · subst h2
      have e1 : namR 119 = rW := rfl
      have e2 : namB 119 = true := rfl
      rw [e1, e2]
      have H := hide (nam_alloc rW 4 true w rfl (by omega))
      clear e1 e2 h1
      go_enter Try.func23, Try.ntmps23
      go_wp2
      go_ret2
      exact H.out
    · by_cases h3 : c = 115
      · subst h3
        have e1 : namR 115 = rS := rfl
        have e2 : namB 115 = true := rfl
        rw [e1, e2]
        have H := hide (nam_alloc rS 2 true w rfl (by omega))
        clear e1 e2 h1 h2
        go_enter Try.func23, Try.ntmps23
        go_wp2
        go_ret2
        exact H.out
      · have e1 : namR c = [] := by unfold namR; rw [if_neg h1, if_neg h2, if_neg h3]
        have e2 : namB c = false := by unfold namB; simp [h1, h2, h3]
        rw [e1, e2]
        have g1 : (c == 100) = false := by simp [h1]
        have g2 : (c == 119) = false := by simp [h2]
        have g3 : (c == 115) = false := by simp [h3]
        clear e1 e2 h1 h2 h3
        go_enter Try.func23, Try.ntmps23
        go_wp2
        go_ret2
        exact ⟨_, rfl, bl_refl w, .inl ⟨rfl, rfl⟩⟩
set_option maxRecDepth 100000 in
set_option maxHeartbeats 2000000 in
theorem rnamed_any (c : Int) (w : World) : Calls Try.prog 103 #[.int .u8 c] w (NamPost (namR c) (namB c) w) := by
  by_cases h1 : c = 100
  · subst h1
    have e1 : namR 100 = rD := rfl
    have e2 : namB 100 = true := rfl
    rw [e1, e2]
    have H := hide (nam_alloc rD 1 true w rfl (by omega))
    clear e1 e2
    go_enter Try.func103, Try.ntmps103
    go_wp2
    go_ret2
    exact H.out
  · by_cases h2 : c = 119
    · subst h2
      have e1 : namR 119 = rW := rfl
      have e2 : namB 119 = true := rfl
      rw [e1, e2]
      have H := hide (nam_alloc rW 4 true w rfl (by omega))
      clear e1 e2 h1
      go_enter Try.func103, Try.ntmps103
      go_wp2
      go_ret2
      exact H.out
    · by_cases h3 : c = 115
      · subst h3
        have e1 : namR 115 = rS := rfl
        have e2 : namB 115 = true := rfl
        rw [e1, e2]
        have H := hide (nam_alloc rS 2 true w rfl (by omega))
        clear e1 e2 h1 h2
        go_enter Try.func103, Try.ntmps103
        go_wp2
        go_ret2
        exact H.out
      · have e1 : namR c = [] := by unfold namR; rw [if_neg h1, if_neg h2, if_neg h3]
        have e2 : namB c = false := by unfold namB; simp [h1, h2, h3]
        rw [e1, e2]
        have g1 : (c == 100) = false := by simp [h1]
        have g2 : (c == 119) = false := by simp [h2]
        have g3 : (c == 115) = false := by simp [h3]
        clear e1 e2 h1 h2 h3
        go_enter Try.func103, Try.ntmps103
        go_wp2
        go_ret2
        exact ⟨_, rfl, bl_refl w, .inl ⟨rfl, rfl⟩⟩
end Go.Proofs.Ytcgphknnnjpbkaa
