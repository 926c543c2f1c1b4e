/- All that is found: it rises, and each is what Find finds from the one before on. No condition. -/
import Derived.Test.YtcnliipkfccohaaGreatRnE
namespace Go.Proofs.YtcnliipkfccohaaGreat
open Go.ChangeShapes Go.WideShapes Go.ChangeAt Go.RowKit
open SetM SpanM
set_option maxRecDepth 100000
set_option linter.unusedVariables false
theorem fd_sh {of : Nat → Int} {tk : Rt → Nat → Option Nat} {t : Rt} {n N f i st : Nat} {r : Ro} (h : Fd (QG of tk t n) N f i st r) (hr : r ≠ .dry) (d : Nat) : Fd (QG of tk t n) N (f + d) i st (r.sh 0 d) := by
  induction h with
  | none f i h => exact .none _ _ h
  | hit f i r h hq hn => exact .hit _ _ _ h (by have := on_sh _ _ hq hr (a := 0) (b := d) (Nat.zero_le _); exact this) (Ro.sh_fail 0 d hn)
  | miss f f' i st r h hq h2 ih =>
    have h5 := on_sh _ _ hq (by intro e; cases e) (a := 0) (b := d) (Nat.zero_le _)
    exact .miss _ (f' + d) _ _ _ h h5 (ih hr)
def RsL (of : Nat → Int) (Q : Nat → Nat → Ro → Prop) (N F : Nat) : Nat → List Mt → Prop
  | _, [] => True
  | i, m :: r => ∃ st j p f f', i ≤ st ∧ st ≤ j ∧ j < N ∧ f ≤ F ∧ Fd Q N f i st (.found j p f') ∧ m = ((of st, of j), p) ∧ RsL of Q N F (nx of st j) r
theorem al_rs {of : Nat → Int} {Q : Nat → Nat → Ro → Prop} {N F : Nat} (hL : ∀ f i r, Q f i r → r.left ≤ f) (hS : ∀ f i j p f', Q f i (.found j p f') → i < N → i ≤ j ∧ j < N) {f i : Nat} {o : Option (List Mt × Nat)} (h : Al of Q N f i o) : ∀ q, o = some q → f ≤ F → RsL of Q N F i q.1 := by
  induction h with
  | stop f i h => intro q e _; injection e with e; subst e; trivial
  | none f i st f' h hf => intro q e _; injection e with e; subst e; trivial
  | dry f i st h hf => intro q e; cases e
  | more f i st j p f' o h hf h2 ih =>
    intro q e hF
    cases o with
    | none => cases e
    | some o =>
      injection e with e
      subst e
      have h3 := fd_lt hf (by intro f2 e; cases e)
      obtain ⟨g, h4, _, h5⟩ := (fd_hit hf).resolve_left (by rintro ⟨f2, e⟩; cases e)
      have h6 := hS _ _ _ _ _ h4 h5
      have h7 := fd_left hL hf
      exact ⟨st, j, p, f, f', h3.1, h6.1, h6.2, hF, hf, rfl, ih o rfl (Nat.le_trans h7 hF)⟩
theorem al_head {of : Nat → Int} {Q : Nat → Nat → Ro → Prop} {N : Nat} {f i : Nat} {q : List Mt × Nat} (h : Al of Q N f i (some q)) (hi : i < N) : (q.1 = [] ∧ ∃ st f', Fd Q N f i st (.fail f')) ∨ ∃ st j p f' r, q.1 = ((of st, of j), p) :: r ∧ Fd Q N f i st (.found j p f') := by
  generalize ho : some q = o at h
  cases h with
  | stop _ _ h => omega
  | none _ _ st f' h hf => injection ho with ho; subst ho; exact .inl ⟨rfl, st, f', hf⟩
  | dry _ _ st h hf => cases ho
  | more _ _ st j p f' o h hf h2 =>
    cases o with
    | none => cases ho
    | some o => injection ho with ho; subst ho; exact .inr ⟨st, j, p, f', o.1, rfl, hf⟩
theorem rs_two {of : Nat → Int} {Q : Nat → Nat → Ro → Prop} {N F : Nat} : ∀ {ms : List Mt} {i : Nat}, RsL of Q N F i ms → ∀ l (h : l + 1 < ms.length), ∃ st j p st2 j2 p2 f2 f2', ms[l] = ((of st, of j), p) ∧ ms[l + 1] = ((of st2, of j2), p2) ∧ st ≤ j ∧ j < N ∧ nx of st j ≤ st2 ∧ st2 ≤ j2 ∧ j2 < N ∧ f2 ≤ F ∧ Fd Q N f2 (nx of st j) st2 (.found j2 p2 f2')
  | [], _, _, l, h => by simp at h
  | [_], _, _, l, h => by simp at h
  | m :: m2 :: r, i, hr, 0, h => by
    obtain ⟨st, j, p, f, f', h1, h2, h3, h4, h5, h6, h7⟩ := hr
    obtain ⟨st2, j2, p2, f2, f2', g1, g2, g3, g4, g5, g6, g7⟩ := h7
    exact ⟨st, j, p, st2, j2, p2, f2, f2', h6, g6, h2, h3, g1, g2, g3, g4, g5⟩
  | m :: m2 :: r, i, hr, l + 1, h => by
    obtain ⟨st, j, p, f, f', h1, h2, h3, h4, h5, h6, h7⟩ := hr
    exact rs_two (ms := m2 :: r) h7 l (by simpa using h)
theorem ofG_lt {s : ByteArray} {i j : Nat} (h : i < j) (hj : j < (psS s).length) : ofG (psS s) i < ofG (psS s) j := by
  unfold ofG
  rw [List.getD_eq_getElem?_getD, List.getD_eq_getElem?_getD, List.getElem?_eq_getElem hj, List.getElem?_eq_getElem (Nat.lt_trans h hj), Option.getD_some, Option.getD_some]
  have h2 : (psS s)[i] < (psS s)[j] := List.pairwise_iff_getElem.1 (plGo_strict s.data.toList 0) i j (Nat.lt_trans h hj) hj h
  omega
theorem fiq_of {t : Rt} {fold : Bool} {s : ByteArray} {F i st : Nat} {r : Ro} {q : An} (hc : cnB t 16 512 = true) (hi : i < (psS s).length) (h : FiQ t fold s (ofG (psS s) i) F q) (hf : Fd (QG (ofG (psS s)) (tkG s (psS s) fold) t (gM t)) (psS s).length F i st r) : q = anS (ofG (psS s)) st r := by
  unfold FiQ at h
  rw [if_neg (by rw [hc]; decide), if_pos (ofG_mem hi)] at h
  obtain ⟨i', st', r', hi', ho, rfl⟩ := h
  have hii : i' = i := ps_one hi' ⟨hi, by unfold ofG; rw [List.getD_eq_getElem?_getD, List.getElem?_eq_getElem hi]; rfl⟩
  subst hii
  obtain ⟨rfl, rfl⟩ := fd_det (Q := QG (ofG (psS s)) (tkG s (psS s) fold) t (gM t)) (fun f i r r' h1 h2 => on_det _ _ h1 h2) ho hf
  rfl
theorem zero_of (s : ByteArray) : 0 < (psS s).length ∧ ofG (psS s) 0 = 0 := by
  have h1 : ∀ l, (plGo l 0)[0]? = some 0 := fun l => by cases l <;> simp [plGo]
  have h2 := h1 s.data.toList
  have h3 : 0 < (psS s).length := (plGo_in s.data.toList 0).2.2.2
  refine ⟨h3, ?_⟩
  unfold ofG psS
  rw [List.getD_eq_getElem?_getD, h2]; rfl
/-- All of a tree that may be. -/
theorem ag_form {t : Rt} {fold : Bool} {s : ByteArray} {fuel : Int} {w w' : World} {e : Ending} (hc : cnB t 16 512 = true) (h : AgPost t fold s fuel w e w') : ∃ o, Al (ofG (psS s)) (QG (ofG (psS s)) (tkG s (psS s) fold) t (gM t)) (psS s).length (fuC fuel) 0 o ∧ AlPost o w e w' := by
  unfold AgPost at h
  obtain ⟨h1, h2⟩ := zero_of s
  have hm := ofG_mem h1
  rw [h2] at hm
  rw [if_neg (by rw [hc]; decide), if_pos hm] at h
  obtain ⟨i, o, hi, ho, hp⟩ := h
  have hii : i = 0 := ps_one hi ⟨h1, by have := h2; unfold ofG at this; rw [List.getD_eq_getElem?_getD, List.getElem?_eq_getElem h1] at this; exact this⟩
  subst hii
  exact ⟨o, ho, hp⟩
theorem rs_facts {t : Rt} {fold : Bool} {s : ByteArray} {ms : List Mt} {F i : Nat} (hc : cnB t 16 512 = true) (hr : RsL (ofG (psS s)) (QG (ofG (psS s)) (tkG s (psS s) fold) t (gM t)) (psS s).length F i ms) (l : Nat) (h : l + 1 < ms.length) : ms[l].1.2 ≤ ms[l + 1].1.1 ∧ ms[l + 1].1.1 ≠ ms[l].1.1 ∧ ms[l + 1].1.1 ≤ ms[l + 1].1.2 ∧ (ms[l].1.1 < ms[l].1.2 → ∀ q, FiQ t fold s ms[l].1.2 F q → ∃ f : Int, q = ⟨ms[l + 1].1.1, ms[l + 1].1.2, ms[l + 1].2, f, true, 0⟩) := by
  obtain ⟨st, j, p, st2, j2, p2, f2, f2', e1, e2, h1, h2, h3, h4, h5, h6, h7⟩ := rs_two hr l h
  rw [e1, e2]
  have hn : j ≤ nx (ofG (psS s)) st j := by unfold nx; split <;> omega
  have hm := ofG_mono (s := s) (show j ≤ st2 by omega) (by omega)
  refine ⟨hm, ?_, ofG_mono h4 h5, fun hlt q hq => ?_⟩
  · show ofG (psS s) st2 ≠ ofG (psS s) st
    by_cases he : ofG (psS s) st = ofG (psS s) j
    · have h8 : nx (ofG (psS s)) st j = j + 1 := by unfold nx; rw [if_pos he]
      have := ofG_lt (s := s) (show st < st2 by omega) (by omega)
      omega
    · have h9 := ofG_mono (s := s) h1 h2
      omega
  · have hlt2 : ofG (psS s) st < ofG (psS s) j := hlt
    have h8 : nx (ofG (psS s)) st j = j := by unfold nx; rw [if_neg (by omega)]
    rw [h8] at h7
    have h9 := fd_sh h7 (by intro e; cases e) (F - f2)
    rw [show f2 + (F - f2) = F by omega] at h9
    exact ⟨_, fiq_of hc h2 hq h9⟩
/-- Matches in a row. -/
def MsR (w : World) (A : Option Addr) (ms : List Mt) : Prop := ∀ l (h : l < ms.length), ∃ g B c, A = some ⟨g, 0, none⟩ ∧ w.cell? ⟨g, l * 3, none⟩ = some (.int .i64 (ms[l]).1.1) ∧ w.cell? ⟨g, l * 3 + 1, none⟩ = some (.int .i64 (ms[l]).1.2) ∧ w.cell? ⟨g, l * 3 + 2, none⟩ = some (.slice B (ms[l]).2.length c) ∧ SpAt w (.slice B (ms[l]).2.length c) (ms[l]).2
theorem flatA_at : ∀ (A : List (Int × Int × Value)) (l : Nat) (h : l < A.length), (flatA A)[l * 3]? = some (.int .i64 A[l].1) ∧ (flatA A)[l * 3 + 1]? = some (.int .i64 A[l].2.1) ∧ (flatA A)[l * 3 + 2]? = some A[l].2.2
  | [], l, h => by simp at h
  | a :: r, 0, h => ⟨rfl, rfl, rfl⟩
  | a :: r, l + 1, h => by
    have h2 := flatA_at r l (by simpa using h)
    have e : ∀ k, (flatA (a :: r))[k + 3]? = (flatA r)[k]? := fun k => by
      show (encA a ++ flatA r)[k + 3]? = _
      rw [List.getElem?_append_right (by simp [encA])]
      simp [encA]
    rw [show (l + 1) * 3 = l * 3 + 3 by omega, show l * 3 + 3 + 1 = (l * 3 + 1) + 3 by omega, show l * 3 + 3 + 2 = (l * 3 + 2) + 3 by omega, e, e, e]
    exact h2
theorem mts_at {bA : Nat} {F : Nat → Prop} {w : World} : ∀ {A : List (Int × Int × Value)} {ms : List Mt}, MtsAt bA F w A ms → ∀ l (h : l < ms.length) (h2 : l < A.length), A[l].1 = ms[l].1.1 ∧ A[l].2.1 = ms[l].1.2 ∧ w.ownsRow bA 29 2 A[l].2.2 ms[l].2.length (flat ms[l].2)
  | [], [], _, l, h, _ => by simp at h
  | a :: A, m :: ms, hm, 0, _, _ => ⟨hm.1, hm.2.1, hm.2.2.1.1⟩
  | a :: A, m :: ms, hm, l + 1, h, h2 => mts_at hm.2.2.2 l (by simpa using h) (by simpa using h2)
theorem mts_lenF {bA : Nat} {F : Nat → Prop} {w : World} : ∀ {A : List (Int × Int × Value)} {ms : List Mt}, MtsAt bA F w A ms → A.length = ms.length
  | [], [], _ => rfl
  | e :: A, m :: ms, h => by simp [mts_lenF h.2.2.2]
  | [], _ :: _, h => h.elim
  | _ :: _, [], h => h.elim
theorem al_form {q : List Mt × Nat} {w w' : World} {e : Ending} (h : AlPost (some q) w e w') : ∃ A c, e = .returned (.tuple #[.slice A q.1.length c, .int .i64 ((q.2 : Nat) : Int), .int .i64 0]) ∧ Below w.heap.size w w' ∧ MsR w' A q.1 ∧ q.1.length ≤ maxLen := by
  obtain ⟨v, A, rfl, hb, ho, hm⟩ := h
  have hl := mts_lenF hm
  obtain ⟨A0, c0, hv⟩ := own_slice ho
  refine ⟨A0, c0, by rw [hv, hl], hb, fun l hl2 => ?_, by rcases own_form ho with ⟨_, hz, _⟩ | ⟨_, _, _, _, _, h1, h2, _⟩ <;> omega⟩
  rcases own_form ho with ⟨_, hz, _⟩ | ⟨g, c, hv2, _, _, _, _, hc⟩
  · omega
  · rw [hv] at hv2
    injection hv2 with hA _ _
    obtain ⟨f1, f2, f3⟩ := flatA_at A l (by omega)
    obtain ⟨m1, m2, m3⟩ := mts_at hm l hl2 (by omega)
    obtain ⟨B, cB, hB⟩ := own_slice m3
    refine ⟨g, B, cB, hA, by rw [← m1]; exact hc _ _ f1, by rw [← m2]; exact hc _ _ f2, by rw [← hB]; exact hc _ _ f3, ?_⟩
    have := own_spat m3
    rw [hB] at this
    exact this
theorem an_row {of : Nat → Int} {st : Nat} {r : Ro} {w w' : World} {e : Ending} (h : AnPost of st r w e w') : ∃ A c, e = .returned (.tuple #[.agg #[.int .i64 (anS of st r).a, .int .i64 (anS of st r).b, .slice A (anS of st r).p.length c], .int .i64 (anS of st r).f, .bool (anS of st r).ok, .int .i64 (anS of st r).n]) ∧ Below w.heap.size w w' ∧ w'.ownsRow w.heap.size 29 2 (.slice A (anS of st r).p.length c) (anS of st r).p.length (flat (anS of st r).p) := by
  cases r with
  | dry => exact ⟨none, 0, h.1, h.2, ⟨rfl, .inl ⟨rfl, rfl⟩⟩⟩
  | fail f => exact ⟨none, 0, h.1, h.2, ⟨rfl, .inl ⟨rfl, rfl⟩⟩⟩
  | found i p f =>
    obtain ⟨v', rfl, hb, ho⟩ := h
    obtain ⟨A, c, rfl⟩ := own_slice ho
    exact ⟨A, c, rfl, hb, ho⟩
theorem fi_row {t : Rt} {fold : Bool} {s : ByteArray} {at_ fuel : Int} {w w' : World} {e : Ending} (h : FiPost t fold s at_ fuel w e w') : ∃ q, FiQ t fold s at_ (fuC fuel) q ∧ ∃ A c, e = .returned (.tuple #[.agg #[.int .i64 q.a, .int .i64 q.b, .slice A q.p.length c], .int .i64 q.f, .bool q.ok, .int .i64 q.n]) ∧ Below w.heap.size w w' ∧ w'.ownsRow w.heap.size 29 2 (.slice A q.p.length c) q.p.length (flat q.p) := by
  unfold FiPost at h
  unfold FiQ
  split at h
  · rename_i h1
    exact ⟨⟨0, 0, [], 0, false, 10⟩, by rw [if_pos h1], none, 0, h.1, h.2, ⟨rfl, .inl ⟨rfl, rfl⟩⟩⟩
  · rename_i h1
    split at h
    · rename_i h2
      obtain ⟨i, st, r, hi, ho, hp⟩ := h
      exact ⟨_, by rw [if_neg h1, if_pos h2]; exact ⟨i, st, r, hi, ho, rfl⟩, an_row hp⟩
    · rename_i h2
      exact ⟨⟨0, 0, [], 0, false, 3⟩, by rw [if_neg h1, if_neg h2], none, 0, h.1, h.2, ⟨rfl, .inl ⟨rfl, rfl⟩⟩⟩
end Go.Proofs.YtcnliipkfccohaaGreat
