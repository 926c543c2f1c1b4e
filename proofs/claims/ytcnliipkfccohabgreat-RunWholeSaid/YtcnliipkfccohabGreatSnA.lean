/- What At and Find answer, as plain values; two rows of stretches held against one another. No condition but short rows. -/
import Derived.Test.YtcnliipkfccohabGreatS167
namespace Go.Proofs.YtcnliipkfccohabGreat
open Go.ChangeShapes Go.WideShapes Go.ChangeAt Go.RowKit
open SetM SpanM
attribute [local go_sem ↓] Go.wp_at_zero Go.wp_at_succ
set_option maxRecDepth 100000
set_option linter.unusedVariables false
theorem neq_s4 (a1 a2 b1 b2 : Int) (w : World) : (binOp .neq 33 (.agg #[.int .i64 a1, .int .i64 a2]) (.agg #[.int .i64 b1, .int .i64 b2])).run Tryz.prog w = .ok (.bool (!decide ((a1, a2) = (b1, b2)))) w := by
  go_simp
  by_cases h1 : a1 = b1 <;> by_cases h2 : a2 = b2 <;> simp [h1, h2]
theorem eql_s4 (a1 a2 b1 b2 : Int) (w : World) : (binOp .eql 33 (.agg #[.int .i64 a1, .int .i64 a2]) (.agg #[.int .i64 b1, .int .i64 b2])).run Tryz.prog w = .ok (.bool (decide ((a1, a2) = (b1, b2)))) w := by
  go_simp
  by_cases h1 : a1 = b1 <;> by_cases h2 : a2 = b2 <;> simp [h1, h2]
theorem eqgn_s4 (x y : Operand) (a1 a2 b1 b2 : Int) (w : World) : (eqGuard .neq 33 x y (.agg #[.int .i64 a1, .int .i64 a2]) (.agg #[.int .i64 b1, .int .i64 b2])).run Tryz.prog w = .ok () w :=
  run_eqGuard_agg _ _ _ _ _ _ _ (by kernel_rfl)
theorem eqge_s4 (x y : Operand) (a1 a2 b1 b2 : Int) (w : World) : (eqGuard .eql 33 x y (.agg #[.int .i64 a1, .int .i64 a2]) (.agg #[.int .i64 b1, .int .i64 b2])).run Tryz.prog w = .ok () w :=
  run_eqGuard_agg _ _ _ _ _ _ _ (by kernel_rfl)
/-- Ends, parts, what fuel is left, was it found, the error. -/
structure An where
  a : Int
  b : Int
  p : List Sp
  f : Int
  ok : Bool
  n : Int
def anS (of : Nat → Int) (st : Nat) : Ro → An
  | .dry => ⟨0, 0, [], 0, false, 9⟩
  | .fail f => ⟨0, 0, [], f, false, 0⟩
  | .found i p f => ⟨of st, of i, p, f, true, 0⟩
/-- The answer as it lies in memory. -/
def AnF (q : An) (w : World) (e : Ending) (w' : World) : Prop := ∃ A c, e = .returned (.tuple #[.agg #[.int .i64 q.a, .int .i64 q.b, .slice A q.p.length c], .int .i64 q.f, .bool q.ok, .int .i64 q.n]) ∧ Below w.heap.size w w' ∧ SpAt w' (.slice A q.p.length c) q.p
theorem an_form {of : Nat → Int} {st : Nat} {r : Ro} {w w' : World} {e : Ending} (h : AnPost of st r w e w') : AnF (anS of st r) w e w' := by
  cases r with
  | dry => exact ⟨none, 0, h.1, h.2, .inl ⟨rfl, rfl⟩⟩
  | fail f => exact ⟨none, 0, h.1, h.2, .inl ⟨rfl, rfl⟩⟩
  | found i p f =>
    obtain ⟨v', rfl, hb, ho⟩ := h
    obtain ⟨A, c, rfl⟩ := own_slice ho
    exact ⟨A, c, rfl, hb, own_spat ho⟩
def fuC (fuel : Int) : Nat := (min (max fuel 0) 20000).toNat
theorem fuC_le (fuel : Int) : fuC fuel ≤ 20000 := by unfold fuC; omega
theorem fuC_nat (n : Nat) (h : n ≤ 20000) : fuC (n : Int) = n := by unfold fuC; omega
/-- What At answers. -/
def AtQ (t : Rt) (fold : Bool) (s : ByteArray) (at_ : Int) (F : Nat) (q : An) : Prop :=
  if cnB t 16 512 = false then q = ⟨0, 0, [], 0, false, 10⟩
  else if at_ ∈ (psS s).map (fun (n : Nat) => (n : Int)) then ∃ (i : Nat) (r : Ro), (∃ h : i < (psS s).length, (((psS s)[i] : Nat) : Int) = at_) ∧ On (ofG (psS s)) (tkG s (psS s) fold) F [.hold t 0] i (List.replicate (gM t) (-1, -1)) r ∧ q = anS (ofG (psS s)) i r
  else q = ⟨0, 0, [], 0, false, 3⟩
/-- What Find answers. -/
def FiQ (t : Rt) (fold : Bool) (s : ByteArray) (at_ : Int) (F : Nat) (q : An) : Prop :=
  if cnB t 16 512 = false then q = ⟨0, 0, [], 0, false, 10⟩
  else if at_ ∈ (psS s).map (fun (n : Nat) => (n : Int)) then ∃ (i st : Nat) (r : Ro), (∃ h : i < (psS s).length, (((psS s)[i] : Nat) : Int) = at_) ∧ Fd (QG (ofG (psS s)) (tkG s (psS s) fold) t (gM t)) (psS s).length F i st r ∧ q = anS (ofG (psS s)) st r
  else q = ⟨0, 0, [], 0, false, 3⟩
theorem at_form {t : Rt} {fold : Bool} {s : ByteArray} {at_ fuel : Int} {w w' : World} {e : Ending} (h : AtPost t fold s at_ fuel w e w') : ∃ q, AtQ t fold s at_ (fuC fuel) q ∧ AnF q w e w' := by
  unfold AtPost at h
  unfold AtQ
  split at h
  · rename_i h1
    exact ⟨⟨0, 0, [], 0, false, 10⟩, by rw [if_pos h1], none, 0, h.1, h.2, .inl ⟨rfl, rfl⟩⟩
  · rename_i h1
    split at h
    · rename_i h2
      obtain ⟨i, r, hi, ho, hp⟩ := h
      exact ⟨_, by rw [if_neg h1, if_pos h2]; exact ⟨i, r, hi, ho, rfl⟩, an_form hp⟩
    · rename_i h2
      exact ⟨⟨0, 0, [], 0, false, 3⟩, by rw [if_neg h1, if_neg h2], none, 0, h.1, h.2, .inl ⟨rfl, rfl⟩⟩
theorem fi_form {t : Rt} {fold : Bool} {s : ByteArray} {at_ fuel : Int} {w w' : World} {e : Ending} (h : FiPost t fold s at_ fuel w e w') : ∃ q, FiQ t fold s at_ (fuC fuel) q ∧ AnF q w e w' := by
  unfold FiPost at h
  unfold FiQ
  split at h
  · rename_i h1
    exact ⟨⟨0, 0, [], 0, false, 10⟩, by rw [if_pos h1], none, 0, h.1, h.2, .inl ⟨rfl, rfl⟩⟩
  · rename_i h1
    split at h
    · rename_i h2
      obtain ⟨i, st, r, hi, ho, hp⟩ := h
      exact ⟨_, by rw [if_neg h1, if_pos h2]; exact ⟨i, st, r, hi, ho, rfl⟩, an_form hp⟩
    · rename_i h2
      exact ⟨⟨0, 0, [], 0, false, 3⟩, by rw [if_neg h1, if_neg h2], none, 0, h.1, h.2, .inl ⟨rfl, rfl⟩⟩
theorem ps_one {s : ByteArray} {i j : Nat} {at_ : Int} (h : ∃ h : i < (psS s).length, (((psS s)[i] : Nat) : Int) = at_) (g : ∃ h : j < (psS s).length, (((psS s)[j] : Nat) : Int) = at_) : i = j := by
  obtain ⟨hi, ei⟩ := h
  obtain ⟨hj, ej⟩ := g
  have hp := plGo_strict s.data.toList 0
  rw [List.pairwise_iff_getElem] at hp
  rcases Nat.lt_trichotomy i j with h1 | h1 | h1
  · have : (psS s)[i] < (psS s)[j] := hp i j hi hj h1
    omega
  · exact h1
  · have : (psS s)[j] < (psS s)[i] := hp j i hj hi h1
    omega
theorem atq_det {t : Rt} {fold : Bool} {s : ByteArray} {at_ : Int} {F : Nat} {q q' : An} (h : AtQ t fold s at_ F q) (g : AtQ t fold s at_ F q') : q = q' := by
  unfold AtQ at h g
  split at h
  · rename_i h1; rw [if_pos h1] at g; exact h.trans g.symm
  · rename_i h1
    rw [if_neg h1] at g
    split at h
    · rename_i h2
      rw [if_pos h2] at g
      obtain ⟨i, r, hi, ho, rfl⟩ := h
      obtain ⟨j, r', hj, ho', rfl⟩ := g
      obtain rfl := ps_one hi hj
      obtain rfl := on_det _ _ ho ho'
      rfl
    · rename_i h2; rw [if_neg h2] at g; exact h.trans g.symm
theorem fiq_det {t : Rt} {fold : Bool} {s : ByteArray} {at_ : Int} {F : Nat} {q q' : An} (h : FiQ t fold s at_ F q) (g : FiQ t fold s at_ F q') : q = q' := by
  unfold FiQ at h g
  split at h
  · rename_i h1; rw [if_pos h1] at g; exact h.trans g.symm
  · rename_i h1
    rw [if_neg h1] at g
    split at h
    · rename_i h2
      rw [if_pos h2] at g
      obtain ⟨i, st, r, hi, ho, rfl⟩ := h
      obtain ⟨j, st', r', hj, ho', rfl⟩ := g
      obtain rfl := ps_one hi hj
      obtain ⟨rfl, rfl⟩ := fd_det (Q := QG (ofG (psS s)) (tkG s (psS s) fold) t (gM t)) (fun f i r r' h1 h2 => on_det _ _ h1 h2) ho ho'
      rfl
    · rename_i h2; rw [if_neg h2] at g; exact h.trans g.symm
theorem tk_in {s : ByteArray} {ps : List Nat} {fold : Bool} (x : Rt) (i n : Nat) (h : tkG s ps fold x i = some n) (hi : i ≤ ps.length - 1) : i + n ≤ ps.length - 1 := by
  unfold tkG at h
  split at h
  · split at h <;> first | (injection h with h; omega) | cases h
  · split at h
    · split at h <;> first | (injection h with h; omega) | cases h
    · split at h
      · split at h <;> first | (injection h with h; omega) | cases h
      · split at h
        · split at h <;> first | (injection h with h; omega) | cases h
        · split at h
          · split at h <;> first | (injection h with h; omega) | cases h
          · cases h
theorem on_span {s : ByteArray} {ps : List Nat} {fold : Bool} {t : Rt} {F i n j f : Nat} {q : List (Int × Int)} (h : On (ofG ps) (tkG s ps fold) F [.hold t 0] i (List.replicate n (-1, -1)) (.found j q f)) (hi : i < ps.length) : i ≤ j ∧ j < ps.length ∧ q.length = n ∧ ∀ s ∈ q, Pt (ofG ps) i j s := by
  have := on_in (ofG ps) (tkG s ps fold) (ps.length - 1) i h tk_in ⟨Nat.le_refl _, by omega, fun g b hm => (by cases hm with | tail _ hm => cases hm), fun s hs => .inl (List.eq_of_mem_replicate hs)⟩ j q f rfl
  rw [List.length_replicate] at this
  exact ⟨this.1, by omega, this.2.2.1, this.2.2.2⟩
theorem fd_hit {Q : Nat → Nat → Ro → Prop} {N f i st : Nat} {r : Ro} (h : Fd Q N f i st r) : (∃ f', r = .fail f') ∨ ∃ f', Q f' st r ∧ i ≤ st ∧ st < N := by
  induction h with
  | none f i h => exact .inl ⟨_, rfl⟩
  | hit f i r h hq hr => exact .inr ⟨f, hq, Nat.le_refl _, h⟩
  | miss f f' i st r h hq h2 ih =>
    rcases ih with ih | ⟨g, h3, h4, h5⟩
    · exact .inl ih
    · exact .inr ⟨g, h3, by omega, h5⟩
theorem atq_len {t : Rt} {fold : Bool} {s : ByteArray} {at_ : Int} {F : Nat} {q : An} (h : AtQ t fold s at_ F q) : q.p.length ≤ gM t := by
  unfold AtQ at h
  split at h
  · rw [h]; exact Nat.zero_le _
  · split at h
    · obtain ⟨i, r, ⟨hi, _⟩, ho, rfl⟩ := h
      cases r with
      | dry => exact Nat.zero_le _
      | fail f => exact Nat.zero_le _
      | found j p f => exact Nat.le_of_eq (on_span ho hi).2.2.1
    · rw [h]; exact Nat.zero_le _
theorem fiq_len {t : Rt} {fold : Bool} {s : ByteArray} {at_ : Int} {F : Nat} {q : An} (h : FiQ t fold s at_ F q) : q.p.length ≤ gM t := by
  unfold FiQ at h
  split at h
  · rw [h]; exact Nat.zero_le _
  · split at h
    · obtain ⟨i, st, r, ⟨hi, _⟩, ho, rfl⟩ := h
      cases r with
      | dry => exact Nat.zero_le _
      | fail f => exact Nat.zero_le _
      | found j p f =>
        rcases fd_hit ho with ⟨f', h1⟩ | ⟨f', h1, h2, h3⟩
        · cases h1
        · exact Nat.le_of_eq (on_span h1 h3).2.2.1
    · rw [h]; exact Nat.zero_le _
section
theorem tk_eq_succ {α : Type} (l m : List α) (k : Nat) (h : k < l.length) (g : k < m.length) (e : l.take k = m.take k) (e2 : l[k] = m[k]) : l.take (k + 1) = m.take (k + 1) := by
  rw [List.take_succ_eq_append_getElem h, List.take_succ_eq_append_getElem g, e, e2]
theorem neq_sp (a b : Sp) (w : World) : (binOp .neq 33 (.agg #[.int .i64 a.1, .int .i64 a.2]) (.agg #[.int .i64 b.1, .int .i64 b.2])).run Tryz.prog w = .ok (.bool (!decide (a = b))) w := by
  obtain ⟨a1, a2⟩ := a
  obtain ⟨b1, b2⟩ := b
  show (binOp .neq 33 (.agg #[.int .i64 a1, .int .i64 a2]) (.agg #[.int .i64 b1, .int .i64 b2])).run Tryz.prog w = .ok (.bool (!decide ((a1, a2) = (b1, b2)))) w
  go_simp
  by_cases h1 : a1 = b1 <;> by_cases h2 : a2 = b2 <;> simp [h1, h2]
theorem eqgn_sp (x y : Operand) (a b : Sp) (w : World) : (eqGuard .neq 33 x y (.agg #[.int .i64 a.1, .int .i64 a.2]) (.agg #[.int .i64 b.1, .int .i64 b.2])).run Tryz.prog w = .ok () w :=
  run_eqGuard_agg _ _ _ _ _ _ _ (by kernel_rfl)
attribute [local go_sem] eqgn_sp
attribute [local go_sem ↓] neq_sp
end
end Go.Proofs.YtcnliipkfccohabGreat
