/- What is read, as plain functions of the bytes: atoms, groups, terms, alternatives. No condition. Plain facts of what is read: it is never left open, it goes on, how big it is. No condition. A place in a pattern with the count of open groups beside it: what counting up and down leaves. No condition. Contract: a group of a pattern (rxread's group), from that of what stands in it. Condition: the place is in the text. Contract: an atom of a pattern (rxread's atom), from that of a group. Condition: the place is in a text of at most 256 bytes. Contract: a term of a pattern (rxread's term), from that of an atom. Condition: the place is in the text, some bytes are to come. Contract: an alternative of a pattern (rxread's alternative), from that of a term. Condition: the place is in a text of at most 256 bytes. Contract: a pattern (rxread's pattern). Condition: the place is in a text of at most 256 bytes. Contract: rxread.Read. No condition but a text that is not too long. The layer's awake. No condition. Plain facts: what is read may be; its parts, groups, how deep it is. No condition. -/
import Derived.Test.YtcnliipkfccohaaGreatT164
import Derived.Test.YtcnliipkfccohaaGreatT161
namespace Go.Proofs.YtcnliipkfccohaaGreat
end Go.Proofs.YtcnliipkfccohaaGreat
namespace Go.Proofs.YtcnliipkfccohaaGreat.SetM
end Go.Proofs.YtcnliipkfccohaaGreat.SetM
namespace Go.Proofs.YtcnliipkfccohaaGreat.SpanM
end Go.Proofs.YtcnliipkfccohaaGreat.SpanM
section
namespace Go.Proofs.YtcnliipkfccohaaGreat
section
open SetM
set_option linter.unusedVariables false
def endB (l : List UInt8) : Bool := l.isEmpty || (hdC l == [124] || hdC l == [41])
theorem er_er (t : Rt) : er (er t) = er t := by
  match t with
  | .mk k ch nt rv rows mi ma lz kv kids =>
    rw [er_eq, er_eq]
    simp only [Rt.k, Rt.ch, Rt.nt, Rt.rows, Rt.mi, Rt.ma, Rt.lz, Rt.kids, List.map_map]
    congr 1
    exact List.map_congr_left (fun x hx => er_er x)
theorem flK_er (k : Int) (l : List Rt) : flK k (l.map er) = flK k l := by
  induction l with
  | nil => rfl
  | cons a r ih =>
    unfold flK at ih ⊢
    rw [List.map_cons, List.flatMap_cons, List.flatMap_cons, ih]
    have h1 : (er a).k = a.k := by rw [er_eq]; rfl
    have h2 : (er a).kids.map er = a.kids.map er := by
      rw [er_eq]
      show (a.kids.map er).map er = _
      rw [List.map_map]
      exact List.map_congr_left (fun x _ => er_er x)
    rw [h1, h2, er_er]
end
section
open SetM
set_option linter.unusedVariables false
theorem hd_ne {l : List UInt8} {y : UInt8} (h : (hdC l == [y]) = true) : (tlC l).length < l.length := by
  refine tl_len l (fun h0 => ?_)
  subst h0
  have := beq_iff_eq.1 h
  cases this
end
section
open Go.ChangeShapes Go.WideShapes Go.ChangeAt Go.RowKit
open SetM
attribute [local go_sem ↓] Go.wp_at_zero Go.wp_at_succ
set_option maxRecDepth 100000
set_option linter.unusedVariables false
theorem row_step {N : Nat} {W w4 : World} {base : Nat} {L : List Rt} {t : Rt} {A : Option Addr} {c : Nat} {v' : Value}
    (hL : ∀ x ∈ L, (RxAt W x ∧ ∀ g, (Value.slice A L.length c).ownBlock = some g → Off g x) ∧ Fr N x) (ht : RxAt W t) (htf : Fr N t) (hto : ∀ g, (Value.slice A L.length c).ownBlock = some g → Off g t)
    (ho : w4.ownsRow base 25 8 v' (L.length + 1) (flatX L ++ t.cs)) (hg : W.grownBy w4 (Value.slice A L.length c).ownBlock) (h5 : v'.ownBlock = (Value.slice A L.length c).ownBlock ∨ ∃ k, v'.ownBlock = some k ∧ W.heap.size ≤ k) :
    ∃ (B : Option Addr) (d : Nat), v' = .slice B (L.length + 1) d ∧ w4.ownsRow base 25 8 (.slice B (L ++ [t]).length d) (L ++ [t]).length (flatX (L ++ [t])) ∧ ∀ x ∈ L ++ [t], (RxAt w4 x ∧ ∀ g, (Value.slice B (L ++ [t]).length d).ownBlock = some g → Off g x) ∧ Fr N x := by
  obtain ⟨B, d, rfl⟩ := own_slice ho
  have hl : (L ++ [t]).length = L.length + 1 := by simp
  have hfx : flatX (L ++ [t]) = flatX L ++ t.cs := by simp [flatX]
  refine ⟨B, d, rfl, by rw [hl, hfx]; exact ho, fun x hx => ?_⟩
  have h6 : (RxAt W x ∧ ∀ g, (Value.slice A L.length c).ownBlock = some g → Off g x) ∧ Fr N x := by
    rcases List.mem_append.1 hx with h | h
    · exact hL x h
    · obtain rfl : x = t := by simpa using h
      exact ⟨⟨ht, hto⟩, htf⟩
  refine ⟨⟨rx_row h6.1.1 h6.1.2 hg, fun g hg2 => ?_⟩, h6.2⟩
  rw [hl] at hg2
  rcases h5 with h5 | ⟨k2, h5, h7⟩
  · exact h6.1.2 g (by rw [← h5]; exact hg2)
  · rw [h5] at hg2
    injection hg2 with hg2
    subst hg2
    exact off_new h6.1.1 h7
attribute [local go_sem] later_cell later_frozen
end
end Go.Proofs.YtcnliipkfccohaaGreat
end
