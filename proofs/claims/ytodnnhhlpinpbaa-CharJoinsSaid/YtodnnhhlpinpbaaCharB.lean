/- What a text's characters are, each by itself; char.Join. -/
import Derived.Test.YtodnnhhlpinpbaaJoin
namespace Go.Proofs.Ytodnnhhlpinpbaa
open Go.ChangeShapes Go.WideShapes Go.ChangeAt Go.RowKit
theorem chGo_flat (l acc : List UInt8) : (chGo l acc).flatten = acc ++ l := by
  induction l generalizing acc with
  | nil => simp [chGo]
  | cons c t ih =>
    rw [chGo]
    cases hc : contB c
    · rw [if_neg (by simp), List.flatten_cons, ih]; simp
    · rw [if_pos rfl, ih]; simp
theorem splitL_flat (l : List UInt8) : (splitL l).flatten = l := by
  cases l with
  | nil => rfl
  | cons c r => rw [splitL, chGo_flat]; rfl
/-- One character: a byte, and continuation bytes alone behind it. -/
def oneCh (x : List UInt8) : Prop := ∃ c r, x = c :: r ∧ ∀ d ∈ r, contB d = true
theorem tw_all (r : List UInt8) (h : ∀ d ∈ r, contB d = true) : r.takeWhile contB = r := by
  induction r with
  | nil => rfl
  | cons c t ih => rw [List.takeWhile_cons, h c (by simp), if_pos rfl, ih (fun d hd => h d (by simp [hd]))]
theorem oneCh_first (x : List UInt8) (h : oneCh x) : firstN x = x.length := by
  obtain ⟨c, r, rfl, hr⟩ := h
  rw [firstN, tw_all r hr, List.length_cons, Nat.add_comm]
theorem oneCh_split (x : List UInt8) (h : oneCh x) : splitL x = [x] := by
  obtain ⟨c, r, rfl, hr⟩ := h
  rw [splitL, chGo_eq, tw_all r hr, List.drop_of_length_le (Nat.le_refl _)]; rfl
theorem chGo_one (l acc : List UInt8) (ha : oneCh acc) : ∀ x ∈ chGo l acc, oneCh x := by
  induction l generalizing acc with
  | nil => intro x hx; rw [chGo, List.mem_singleton] at hx; subst hx; exact ha
  | cons c t ih =>
    intro x hx
    rw [chGo] at hx
    cases hc : contB c
    · rw [hc, if_neg (by simp)] at hx
      rcases List.mem_cons.1 hx with rfl | hx
      · exact ha
      · exact ih [c] ⟨c, [], rfl, by simp⟩ x hx
    · rw [hc, if_pos rfl] at hx
      obtain ⟨a, r, rfl, hr⟩ := ha
      refine ih _ ⟨a, r ++ [c], rfl, ?_⟩ x hx
      intro d hd
      rcases List.mem_append.1 hd with h | h
      · exact hr d h
      · rw [List.mem_singleton] at h; subst h; exact hc
theorem splitL_one (l : List UInt8) : ∀ x ∈ splitL l, oneCh x := by
  cases l with
  | nil => intro x hx; cases hx
  | cons c r => exact chGo_one r [c] ⟨c, [], rfl, by simp⟩
theorem chGo_tail (l acc : List UInt8) : ∀ x ∈ (chGo l acc).tail, ∃ c r, x = c :: r ∧ contB c = false := by
  induction l generalizing acc with
  | nil => intro x hx; cases hx
  | cons c t ih =>
    intro x hx
    rw [chGo] at hx
    cases hc : contB c
    · rw [hc, if_neg (by simp), List.tail_cons, chGo_eq] at hx
      rcases List.mem_cons.1 hx with rfl | hx
      · exact ⟨c, _, rfl, hc⟩
      · have h2 := ih [c] x
        rw [chGo_eq, List.tail_cons] at h2
        exact h2 hx
    · rw [hc, if_pos rfl] at hx
      exact ih _ x hx
set_option maxRecDepth 100000 in
theorem cjoin_any (g c : Nat) (zs : List ByteArray) (X : ByteArray) (w : World)
    (hcs : ∀ (j : Nat) x, zs[j]? = some x → w.cell? ⟨g, j, none⟩ = some (.string x)) (hg : g < w.heap.size) (hn : zs.length ≤ 100000) (hc : zs.length ≤ c) (hX : X.size ≤ 1000000)
    (h : (zs.map (fun z => z.data.toList)).flatten = X.data.toList) :
    Calls Try.prog 22 #[.slice (some ⟨g, 0, none⟩) zs.length c] w fun e w' => e = .returned (.string X) ∧ Below w.heap.size w w' := by
  have hj : Lib.join (zs.map (·.data.toList)) (⟨#[]⟩ : ByteArray).data.toList = X.data.toList := by
    rw [← h]
    cases zs with
    | nil => rfl
    | cons z r =>
      rw [List.map_cons, Lib.join_cons, Lib.joinTail, List.flatten_cons]
      simp
      rfl
  have hs := sjoin_any g 0 c zs ⟨#[]⟩ w (fun j x hx => by rw [Nat.zero_add]; exact hcs j x hx) hg (by omega) hc (by rw [hj, len_data]; omega)
  rw [hj] at hs
  have HS := hide hs
  clear hs hj h hcs
  go_enter Try.func22, Try.ntmps22
  go_wp2_with fail
  refine HS.out.mono ?_
  rintro e w1 ⟨rfl, hb⟩
  go_wp2
  go_ret
  exact ⟨rfl, hb⟩
end Go.Proofs.Ytodnnhhlpinpbaa
