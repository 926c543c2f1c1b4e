/- A path's directory, file, base; what is told of a place with a path (plain mathematics). -/
import Derived.Test.YtmjadcjpgcbalaaDoorVdEnd
namespace Go.Proofs.YtmjadcjpgcbalaaDoor
open Go.ChangeShapes Go.WideShapes Go.ChangeAt Go.RowKit
open SpanM SetM
set_option maxRecDepth 100000
set_option linter.unusedVariables false
theorem data_at (x : ByteArray) (j : Nat) (h : j < x.size) : x.data[j]! = x[j] := by
  rw [getElem!_pos x.data j (by exact h)]; rfl
/-- Where the last sign stands, or that there is none. -/
theorem lst_cases (x : ByteArray) (c : Int) : (lstB x c = -1 ∧ ∀ j (h : j < x.size), (x[j].toNat : Int) ≠ c) ∨ ∃ i : Nat, ∃ h : i < x.size, lstB x c = i ∧ (x[i].toNat : Int) = c ∧ ∀ j (hj : j < x.size), i < j → (x[j].toNat : Int) ≠ c := by
  rcases Go.Lib.lastIndexByte_spec x c with ⟨h1, h2⟩ | ⟨i, h1, h2, h3, h4⟩
  · exact .inl ⟨h1, fun j h => by rw [← data_at x j h]; exact h2 j h⟩
  · exact .inr ⟨i, h1, h2, by rw [← data_at x i h1]; exact h3, fun j hj hij => by rw [← data_at x j hj]; exact h4 j hij hj⟩
/-- Is a slash among the first n bytes? -/
def slB (x : ByteArray) (n : Nat) : Bool := (x.data.toList.take n).any fun c => (c.toNat : Int) == 47
theorem slB_zero (x : ByteArray) : slB x 0 = false := by simp [slB]
theorem slB_next (x : ByteArray) (n : Nat) (h : n < x.size) : slB x (n + 1) = (slB x n || ((x[n].toNat : Nat) : Int) == 47) := by
  unfold slB
  rw [List.take_succ_eq_append_getElem (by exact h), List.any_append]
  simp
  rfl
theorem slB_no (x : ByteArray) (h : ∀ j (h : j < x.size), (x[j].toNat : Int) ≠ 47) : slB x x.size = false := by
  unfold slB
  rw [List.any_eq_false]
  intro c hc
  obtain ⟨j, hj0, rfl⟩ := List.getElem_of_mem (List.mem_of_mem_take hc)
  have h2 : j < x.size := hj0
  show ¬ (((x[j].toNat : Nat) : Int) == 47) = true
  rw [beq_iff_eq]
  exact h j h2
theorem slB_yes (x : ByteArray) (i : Nat) (hi : i < x.size) (h : (x[i].toNat : Int) = 47) : slB x x.size = true := by
  unfold slB
  rw [List.take_of_length_le (by exact Nat.le_refl _), List.any_eq_true]
  exact ⟨x.data.toList[i]'(by exact hi), List.getElem_mem _, by show (((x[i].toNat : Nat) : Int) == 47) = true; exact beq_iff_eq.2 h⟩
theorem ext_at' (x : ByteArray) (A B i : Nat) (hi : i < (x.extract A B).size) (h2 : A + i < x.size) : (x.extract A B)[i] = x[A + i] := by
  rw [ByteArray.getElem_extract]
theorem base_facts (f : ByteArray) : (basF f).size ≤ f.size ∧ f.extract 0 (basF f).size = basF f ∧ ((basF f).size ≠ 0 ∨ f.size = 0) := by
  unfold basF
  rcases lst_cases f 46 with ⟨h, _⟩ | ⟨i, hi, h, _, _⟩
  · rw [h, if_neg (by omega)]
    exact ⟨Nat.le_refl _, by simp, by omega⟩
  · rw [h]
    by_cases h0 : 0 < i
    · rw [if_pos (by omega), Int.toNat_natCast]
      have hs : (f.extract 0 i).size = i := by rw [ByteArray.size_extract]; omega
      rw [hs]
      exact ⟨by omega, rfl, by omega⟩
    · rw [if_neg (by omega)]
      exact ⟨Nat.le_refl _, by simp, by omega⟩
theorem path_facts (x : ByteArray) : (∀ j (h : j < (cutF x).size), ((cutF x)[j].toNat : Int) ≠ 47) ∧ ((slB x x.size = false ∧ cutD x = ⟨#[]⟩ ∧ cutF x = x) ∨ (slB x x.size = true ∧ cutD x ++ ⟨#[47]⟩ ++ cutF x = x)) := by
  unfold cutF cutD
  rcases lst_cases x 47 with ⟨h, hn⟩ | ⟨i, hi, h, hc, hn⟩
  · rw [h, if_pos (by omega), if_pos (by omega)]
    exact ⟨hn, .inl ⟨slB_no x hn, rfl, rfl⟩⟩
  · rw [h, if_neg (by omega), if_neg (by omega), Int.toNat_natCast]
    refine ⟨fun j hj => ?_, .inr ⟨slB_yes x i hi hc, ?_⟩⟩
    · have hj2 : i + 1 + j < x.size := by rw [ByteArray.size_extract] at hj; omega
      rw [ext_at' x (i + 1) x.size j hj hj2]
      exact hn (i + 1 + j) hj2 (by omega)
    · apply ByteArray.ext
      apply Array.ext'
      rw [ByteArray.toList_data_append, ByteArray.toList_data_append]
      have e1 : (x.extract 0 i).data.toList = x.data.toList.take i := by
        rw [ByteArray.data_extract]
        simp [List.extract_eq_take_drop]
      have e2 : (x.extract (i + 1) x.size).data.toList = x.data.toList.drop (i + 1) := by
        rw [ByteArray.data_extract]
        simp only [Array.toList_extract, List.extract_eq_take_drop]
        exact List.take_of_length_le (by simp)
      have e3 : x.data.toList = x.data.toList.take i ++ x[i] :: x.data.toList.drop (i + 1) := by
        have := List.drop_eq_getElem_cons (l := x.data.toList) (i := i) (by exact hi)
        conv => lhs; rw [← List.take_append_drop i x.data.toList, this]
        rfl
      have e4 : x[i] = 47 := by
        have h1 : x[i].toNat = 47 := by omega
        have := UInt8.toNat_inj (a := x[i]) (b := 47)
        exact this.1 h1
      rw [e1, e2]
      conv => rhs; rw [e3, e4]
      simp
def nLn : ByteArray := ⟨#[84, 77, 95, 67, 85, 82, 82, 69, 78, 84, 95, 76, 73, 78, 69]⟩
def nSe : ByteArray := ⟨#[84, 77, 95, 83, 69, 76, 69, 67, 84, 69, 68, 95, 84, 69, 88, 84]⟩
def nPa : ByteArray := ⟨#[84, 77, 95, 70, 73, 76, 69, 80, 65, 84, 72]⟩
def nFi : ByteArray := ⟨#[84, 77, 95, 70, 73, 76, 69, 78, 65, 77, 69]⟩
def nBa : ByteArray := ⟨#[84, 77, 95, 70, 73, 76, 69, 78, 65, 77, 69, 95, 66, 65, 83, 69]⟩
def nDi : ByteArray := ⟨#[84, 77, 95, 68, 73, 82, 69, 67, 84, 79, 82, 89]⟩
def envA (v p : ByteArray) : List Rw := [(nLn, v), (nSe, v), (nPa, p), (nFi, v)]
theorem env_path (v p : ByteArray) : getV nPa (envA v p) = p ∧ getB nPa (envA v p) = true := by constructor <;> kernel_rfl
theorem pl_gets (x : ByteArray) (k : Nat) (line wd : ByteArray) (idx : Nat) (v p : ByteArray) :
    (getV nLn (plAll x k k line wd idx true p ++ envA v p) = line ∧ getB nLn (plAll x k k line wd idx true p ++ envA v p) = true) ∧
    (getV nSe (plAll x k k line wd idx true p ++ envA v p) = v ∧ getB nSe (plAll x k k line wd idx true p ++ envA v p) = true) ∧
    (getV nDi (plAll x k k line wd idx true p ++ envA v p) = cutD p ∧ getB nDi (plAll x k k line wd idx true p ++ envA v p) = true) ∧
    (getV nFi (plAll x k k line wd idx true p ++ envA v p) = cutF p ∧ getB nFi (plAll x k k line wd idx true p ++ envA v p) = true) ∧
    (getV nBa (plAll x k k line wd idx true p ++ envA v p) = basF (cutF p) ∧ getB nBa (plAll x k k line wd idx true p ++ envA v p) = true) := by
  unfold plAll plSel plWord plPath
  rw [if_neg (show ¬ k < k by omega)]
  generalize itoaS idx = i0
  generalize itoaS (idx + 1) = i1
  generalize basF (cutF p) = y1
  generalize cutF p = y2
  generalize cutD p = y3
  cases hw : wd.toList.isEmpty
  · refine ⟨⟨?_, ?_⟩, ⟨?_, ?_⟩, ⟨?_, ?_⟩, ⟨?_, ?_⟩, ?_, ?_⟩ <;> kernel_rfl
  · refine ⟨⟨?_, ?_⟩, ⟨?_, ?_⟩, ⟨?_, ?_⟩, ⟨?_, ?_⟩, ?_, ?_⟩ <;> kernel_rfl
theorem pl_short (x : ByteArray) (k : Nat) (line wd : ByteArray) (idx : Nat) (v p : ByteArray) : (plAll x k k line wd idx true p ++ envA v p).length ≤ 1000 := by
  unfold plAll plSel plWord plPath envA
  rw [if_neg (show ¬ k < k by omega)]
  split <;> simp
theorem rwat_four (w : World) (v p : ByteArray) : RwAt (w.alloc (.cells #[.string nLn, .string v, .string nSe, .string v, .string nPa, .string p, .string nFi, .string v] 46)) (.slice (some ⟨w.heap.size, 0, none⟩) 4 4) (envA v p) := by
  refine .inr ⟨⟨w.heap.size, 0, none⟩, 4, rfl, Nat.le_refl _, by decide, fun i hi => ?_⟩
  have h4 : i < 4 := hi
  have key : ∀ (j : Nat) (u : Value), (#[.string nLn, .string v, .string nSe, .string v, .string nPa, .string p, .string nFi, .string v] : Array Value).toList[j]? = some u → (w.alloc (.cells #[.string nLn, .string v, .string nSe, .string v, .string nPa, .string p, .string nFi, .string v] 46)).cell? ((⟨w.heap.size, 0, none⟩ : Addr).add j) = some u := fun j u h => cells_lit w _ _ j u h
  rcases i with _ | _ | _ | _ | i
  · exact ⟨key 0 _ rfl, key 1 _ rfl⟩
  · exact ⟨key 2 _ rfl, key 3 _ rfl⟩
  · exact ⟨key 4 _ rfl, key 5 _ rfl⟩
  · exact ⟨key 6 _ rfl, key 7 _ rfl⟩
  · omega
end Go.Proofs.YtmjadcjpgcbalaaDoor
