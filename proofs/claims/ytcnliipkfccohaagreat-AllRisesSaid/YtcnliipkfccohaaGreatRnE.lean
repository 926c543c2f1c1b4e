/- What is taken lies between its ends. No condition. -/
import Derived.Test.YtcnliipkfccohaaGreatRnB
namespace Go.Proofs.YtcnliipkfccohaaGreat
open Go.ChangeShapes Go.WideShapes Go.ChangeAt Go.RowKit
open SetM SpanM
set_option maxRecDepth 100000
set_option linter.unusedVariables false
theorem ofG_mono {s : ByteArray} {i j : Nat} (h : i ≤ j) (hj : j < (psS s).length) : ofG (psS s) i ≤ ofG (psS s) j := by
  unfold ofG
  rw [List.getD_eq_getElem?_getD, List.getD_eq_getElem?_getD, List.getElem?_eq_getElem hj, List.getElem?_eq_getElem (Nat.lt_of_le_of_lt h hj), Option.getD_some, Option.getD_some]
  rcases Nat.lt_or_eq_of_le h with h1 | h1
  · have := List.pairwise_iff_getElem.1 (plGo_in s.data.toList 0).2.1 i j (Nat.lt_of_le_of_lt h hj) hj h1
    have h2 : (psS s)[i] ≤ (psS s)[j] := this
    omega
  · subst h1; exact Int.le_refl _
theorem ofG_mem {s : ByteArray} {j : Nat} (hj : j < (psS s).length) : ofG (psS s) j ∈ (psS s).map (fun (n : Nat) => (n : Int)) := by
  unfold ofG
  rw [List.getD_eq_getElem?_getD, List.getElem?_eq_getElem hj, Option.getD_some]
  exact List.mem_map.2 ⟨_, List.getElem_mem hj, rfl⟩
theorem atq_out {t : Rt} {fold : Bool} {s : ByteArray} {K : Int} {U : Nat} {q : An} (hc : cnB t 16 512 = true) (h : AtQ t fold s K U q) (hk : ¬ K ∈ (psS s).map (fun (n : Nat) => (n : Int))) : q.n = 3 ∧ q.ok = false := by
  unfold AtQ at h
  rw [if_neg (by rw [hc]; decide), if_neg hk] at h
  rw [h]; exact ⟨rfl, rfl⟩
theorem atq_in {t : Rt} {fold : Bool} {s : ByteArray} {K : Int} {U : Nat} {q : An} (hc : cnB t 16 512 = true) (h : AtQ t fold s K U q) (hk : K ∈ (psS s).map (fun (n : Nat) => (n : Int))) : (q.ok = false ∧ (q.n = 0 ∨ q.n = 9)) ∨ (q.ok = true ∧ q.n = 0 ∧ q.a = K ∧ K ≤ q.b ∧ q.b ∈ (psS s).map (fun (n : Nat) => (n : Int)) ∧ q.p.length = gM t ∧ ∀ u ∈ q.p, u = (-1, -1) ∨ (K ≤ u.1 ∧ u.1 ≤ u.2 ∧ u.2 ≤ q.b)) := by
  unfold AtQ at h
  rw [if_neg (by rw [hc]; decide), if_pos hk] at h
  obtain ⟨i, r, ⟨hi, he⟩, ho, rfl⟩ := h
  cases r with
  | dry => exact .inl ⟨rfl, .inr rfl⟩
  | fail f => exact .inl ⟨rfl, .inl rfl⟩
  | found j p f =>
    obtain ⟨h1, h2, h3, h4⟩ := on_span ho hi
    have hoi : ofG (psS s) i = K := by
      rw [← he]; unfold ofG; rw [List.getD_eq_getElem?_getD, List.getElem?_eq_getElem hi]; rfl
    refine .inr ⟨rfl, rfl, hoi, by rw [← hoi]; exact ofG_mono h1 h2, ofG_mem h2, h3, fun u hu => ?_⟩
    rcases h4 u hu with h5 | ⟨a, b, h6, h7, h8, rfl⟩
    · exact .inl h5
    · exact .inr ⟨by rw [← hoi]; exact ofG_mono h6 (by omega), ofG_mono h7 (by omega), ofG_mono h8 h2⟩
def anyI (ps : List Nat) (K : Int) (n : Nat) : Bool := (ps.take n).any (fun x => ((x : Nat) : Int) == K)
theorem any_step (ps : List Nat) (K : Int) (n : Nat) (h : n < ps.length) : anyI ps K (n + 1) = (anyI ps K n || (((ps[n] : Nat) : Int) == K)) := by
  unfold anyI
  rw [List.take_succ_eq_append_getElem h, List.any_append]
  simp
theorem any_all (ps : List Nat) (K : Int) : anyI ps K ps.length = true ↔ K ∈ ps.map (fun (n : Nat) => (n : Int)) := by
  unfold anyI
  rw [List.take_length, List.any_eq_true, List.mem_map]
  constructor
  · rintro ⟨x, hx, h⟩; exact ⟨x, hx, beq_iff_eq.1 h⟩
  · rintro ⟨x, hx, h⟩; exact ⟨x, hx, beq_iff_eq.2 h⟩
end Go.Proofs.YtcnliipkfccohaaGreat
