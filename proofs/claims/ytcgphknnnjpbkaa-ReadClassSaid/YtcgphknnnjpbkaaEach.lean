/- Bytes laid from a string, turned one by one, told as a string again: octet.Each and its fellows. -/
import Derived.Test.YtcgphknnnjpbkaaRows
import Derived.Test.YtcgphknnnjpbkaaOwn
import Derived.Laws.IdiomStrings
namespace Go.Proofs.Ytcgphknnnjpbkaa
open Go.ChangeShapes Go.WideShapes Go.ChangeAt Go.RowKit

/-- n bytes from the head of block g on, which may be written. -/
def BytesAt (w : World) (g n : Nat) (l : List UInt8) : Prop :=
  l.length = n ∧ g < w.heap.size ∧ (∀ j, j < n → w.cell? ⟨g, j, none⟩ = some (.int .u8 ((l.getD j 0).toNat : Int))) ∧ ∀ j, j < n → w.frozen? ⟨g, j, none⟩ = false
theorem bytes_set {w : World} {g n : Nat} {l : List UInt8} (h : BytesAt w g n l) (k : Nat) (hk : k < n) (c : UInt8) : BytesAt (w.setCell ⟨g, k, none⟩ (.int .u8 (c.toNat : Int))) g n (l.set k c) := by
  obtain ⟨h1, h2, h3, h4⟩ := h
  refine ⟨by simpa using h1, by simpa [World.setCell] using h2, fun j hj => ?_, fun j hj => ?_⟩
  · have hkc := h3 k hk
    have hjc := h3 j hj
    by_cases e : j = k
    · subst e
      have hg : (l.set j c).getD j 0 = c := by simp [List.getD, show j < l.length by omega]
      rw [hg]
      go_simp
    · have hg : (l.set k c).getD j 0 = l.getD j 0 := by simp [List.getD, show ¬ k = j by omega]
      rw [hg]
      have e2 : k ≠ j := fun x => e x.symm
      go_simp
  · have := h4 j hj
    go_simp
theorem bytes_kept {w w' : World} {g n : Nat} {l : List UInt8} (h : BytesAt w g n l) (hb : w'.heap[g]? = w.heap[g]?) : BytesAt w' g n l := by
  obtain ⟨h1, h2, h3, h4⟩ := h
  refine ⟨h1, ?_, fun j hj => ?_, fun j hj => ?_⟩
  · have := Array.getElem?_eq_getElem h2
    rw [this] at hb
    exact (Array.getElem?_eq_some_iff.1 hb).1
  · rw [World.cell?_of_block (w := w) hb]; exact h3 j hj
  · rw [World.frozen?_of_block (w := w) hb]; exact h4 j hj
/-- What a conversion of a string to bytes leaves. -/
theorem bytes_new (w : World) (s : ByteArray) (cap : Nat) (e : TypeId) (hc : s.size ≤ cap) :
    BytesAt (w.drew.alloc (.cells (Go.bytesRow s cap) e ((Go.bytesRow s cap).size, (Go.bytesRow s cap).size + 1))) w.heap.size s.size s.data.toList := by
  have hsz : (Go.bytesRow s cap).size = cap := by
    have : s.data.size = s.size := rfl
    simp [Go.bytesRow]; omega
  refine ⟨by simp, by simp, fun j hj => ?_, fun j hj => ?_⟩
  · have h1 := World.cell?_alloc_mark w.drew (Go.bytesRow s cap) e ((Go.bytesRow s cap).size, (Go.bytesRow s cap).size + 1) j
    have h2 : (w.drew).heap.size = w.heap.size := rfl
    rw [h2] at h1
    rw [h1, Go.bytesRow_at s cap j hj]
    have hj' : j < s.data.size := hj
    have h3 : s.data.toList.getD j 0 = s.data[j] := by
      rw [List.getD, Array.getElem?_toList, getElem?_pos s.data j hj']
      rfl
    rw [h3]
  · have h1 := World.frozen?_alloc_mark w.drew (Go.bytesRow s cap) e (Go.bytesRow s cap).size ((Go.bytesRow s cap).size + 1) j
    have h2 : (w.drew).heap.size = w.heap.size := rfl
    rw [h2] at h1
    rw [h1, hsz]
    simp
    omega
theorem getD_lt (l : List UInt8) (j : Nat) (h : j < l.length) : l.getD j 0 = l[j] := by simp [List.getD, h]
def mapS (f : UInt8 → UInt8) (s : ByteArray) : ByteArray := ⟨(s.data.toList.map f).toArray⟩
def part (f : UInt8 → UInt8) (l : List UInt8) (k : Nat) : List UInt8 := (l.take k).map f ++ l.drop k
theorem part_set (f : UInt8 → UInt8) (l : List UInt8) (k : Nat) (hk : k < l.length) : (part f l k).set k (f l[k]) = part f l (k + 1) := by
  unfold part
  rw [List.set_append_right _ _ (by simp; omega), List.take_succ_eq_append_getElem hk, List.map_append]
  have : k - ((l.take k).map f).length = 0 := by simp; omega
  rw [this, List.drop_eq_getElem_cons hk, List.set_cons_zero]
  simp
theorem part_at (f : UInt8 → UInt8) (l : List UInt8) (k : Nat) (hk : k < l.length) : (part f l k).getD k 0 = l[k] := by
  unfold part
  rw [List.getD, List.getElem?_append_right (by simp; omega)]
  have : k - ((l.take k).map f).length = 0 := by simp; omega
  rw [this, List.drop_eq_getElem_cons hk]
  rfl
theorem part_len (f : UInt8 → UInt8) (l : List UInt8) (k : Nat) : (part f l k).length = l.length := by
  unfold part; simp; omega
theorem part_all (f : UInt8 → UInt8) (l : List UInt8) : part f l l.length = l.map f := by unfold part; simp

def upB (c : UInt8) : UInt8 := if 97 ≤ c.toNat ∧ c.toNat ≤ 122 then c - 32 else c
def downB (c : UInt8) : UInt8 := if 65 ≤ c.toNat ∧ c.toNat ≤ 90 then c + 32 else c
theorem upB_nat (c : UInt8) : (upB c).toNat = if 97 ≤ c.toNat ∧ c.toNat ≤ 122 then c.toNat - 32 else c.toNat := by
  unfold upB
  split
  · rw [UInt8.toNat_sub]
    have h32 : (32 : UInt8).toNat = 32 := rfl
    rw [h32]
    have := c.toNat_lt
    omega
  · rfl
theorem downB_nat (c : UInt8) : (downB c).toNat = if 65 ≤ c.toNat ∧ c.toNat ≤ 90 then c.toNat + 32 else c.toNat := by
  unfold downB
  split
  · rw [UInt8.toNat_add]
    have h32 : (32 : UInt8).toNat = 32 := rfl
    rw [h32]
    have := c.toNat_lt
    omega
  · rfl
set_option maxRecDepth 100000 in
theorem down_any (c : UInt8) (w : World) : Calls Try.prog 114 #[.int .u8 (c.toNat : Int)] w fun e w' => e = .returned (.int .u8 ((downB c).toNat : Int)) ∧ w = w' := by
  have hc : (c.toNat : Int) < 256 := by have := c.toNat_lt; omega
  have HU := hide (downB_nat c)
  generalize (downB c).toNat = u at *
  generalize c.toNat = n at *
  by_cases h : 65 ≤ n ∧ n ≤ 90
  · go_enter Try.func114, Try.ntmps114
    go_wp2
    all_goals
      go_ret
      exact ⟨ret_int (by have := HU.out; rw [if_pos (by omega)] at this; omega), rfl⟩
  · go_enter Try.func114, Try.ntmps114
    go_wp2
    all_goals
      go_ret
      exact ⟨ret_int (by have := HU.out; rw [if_neg (by omega)] at this; omega), rfl⟩
set_option maxRecDepth 100000 in
set_option maxHeartbeats 1000000 in
theorem each_down (s : ByteArray) (w : World) (hs : s.size ≤ 1000000) :
    Calls Try.prog 113 #[.string s, .func (.func 114) #[] #[]] w fun e w' => e = .returned (.string (mapS downB s)) ∧ Below w.heap.size w w' := by
  have hcv := fun (W : World) => Go.run_bytes_of_string W 9 38 5 s Try.underlying9 Try.underlying38 Try.underlying5
  have hcap := grownCap_ge w s.size 0 5
  have hcap2 := grownCap_le_maxLen w s.size 0 5 (by unfold maxLen; omega)
  unfold maxLen at hcap2
  have hb := bytes_new w s (grownCap w s.size 0 5) 5 hcap
  have hbl : Below w.heap.size w (w.drew.alloc (.cells (Go.bytesRow s (grownCap w s.size 0 5)) 5 ((Go.bytesRow s (grownCap w s.size 0 5)).size, (Go.bytesRow s (grownCap w s.size 0 5)).size + 1))) := bl_alloc (bl_drew (bl_refl w)) _
  go_enter Try.func113, Try.ntmps113
  go_wp2
  generalize grownCap w s.size 0 5 = cap at *
  go_loopw [12] (fun i wr => ∃ k : Nat, k ≤ s.size ∧ i = .int .i64 k ∧ BytesAt wr w.heap.size s.size (part downB s.data.toList k) ∧ Below w.heap.size w wr)
    (fun i _ => s.size - (intOf i).toNat)
  case atStart => exact ⟨0, Nat.zero_le _, rfl, hb, hbl⟩
  case round =>
    obtain ⟨k, hk, rfl, hbr, hblr⟩ := hrel
    clear hb hbl hcv
    by_cases hlt : k < s.size
    · have hkl : k < s.data.toList.length := by simpa using hlt
      have hc := hbr.2.2.1 k hlt
      have hf := hbr.2.2.2 k hlt
      have hp := part_at downB s.data.toList k hkl
      rw [hp] at hc
      have hset := bytes_set hbr k hlt (downB s.data.toList[k])
      rw [part_set downB s.data.toList k hkl] at hset
      have HSET := hide hset
      clear hp hset
      generalize s.data.toList[k] = c at *
      go_wp2_with (go_at_call 114; refine (down_any c _).mono ?_; rintro e w1 ⟨rfl, rfl⟩)
      refine ⟨?_, by simp [intOf]; omega⟩
      have hbl2 : Below w.heap.size w (wr.setCell ⟨w.heap.size, k, none⟩ (.int .u8 ((downB c).toNat : Int))) := bl_set hblr (Nat.le_refl _) _
      first
        | exact ⟨k + 1, by omega, by go_num, HSET.out, hbl2⟩
        | ((repeat apply Exists.intro); exact ⟨⟨k + 1, by omega, by go_num, HSET.out, hbl2⟩, rfl⟩)
    · obtain rfl : k = s.size := by omega
      have hl : part downB s.data.toList s.size = s.data.toList.map downB := by have := part_all downB s.data.toList; simpa using this
      rw [hl] at hbr
      have hlen : (s.data.toList.map downB).length = s.size := by simp
      have hback := Go.run_convert_bytes_back wr 38 9 5 ⟨w.heap.size, 0, none⟩ cap (s.data.toList.map downB) Try.underlying38 Try.underlying5 Try.underlying9 (fun j hj => by
        have hj' : j < s.size := by simpa using hj
        have h1 := hbr.2.2.1 j hj'
        have h2 : ((⟨w.heap.size, 0, none⟩ : Addr).add j) = ⟨w.heap.size, j, none⟩ := by
          rcases Nat.eq_zero_or_pos j with h0 | h0
          · subst h0; simp [Addr.add]
          · simp [Addr.add, show j ≠ 0 by omega]
        rw [h2, h1, getD_lt _ _ hj])
      rw [hlen] at hback
      clear hl hlen hbr
      go_wp2
      go_ret
      exact ⟨rfl, hblr⟩
end Go.Proofs.Ytcgphknnnjpbkaa
