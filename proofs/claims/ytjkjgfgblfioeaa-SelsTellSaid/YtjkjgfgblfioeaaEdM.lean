/- Plain facts on edits: lists of stretches with texts, done to a text, turned back; where they lead an offset. No program; no condition. -/
import Derived.Test.YtjkjgfgblfioeaaSpanM
namespace Go.Proofs.Ytjkjgfgblfioeaa.EdM
open SpanM
abbrev Ed := Sp × ByteArray
abbrev Bs := List UInt8
def tx (e : Ed) : Bs := e.2.data.toList
def len (e : Ed) : Int := e.2.size
theorem tx_len (e : Ed) : ((tx e).length : Int) = len e := by unfold tx len; simp
theorem len_nn (e : Ed) : 0 ≤ len e := by unfold len; omega
/-- How much longer it makes a text. -/
def dl (e : Ed) : Int := len e - (e.1.2 - e.1.1)
def tot (l : List Ed) : Int := l.foldl (fun n e => n + dl e) 0
def grown (n : Int) (l : List Ed) : Int := l.foldl (fun n e => n + dl e) n
theorem grown_add (l : List Ed) : ∀ n, grown n l = n + tot l := by
  induction l with
  | nil => intro n; simp [grown, tot]
  | cons e r ih =>
    intro n
    have h1 := ih (n + dl e)
    have h2 := ih (0 + dl e)
    unfold grown tot at *
    rw [List.foldl_cons, List.foldl_cons, h1, h2]; omega
theorem tot_cons (e : Ed) (r : List Ed) : tot (e :: r) = dl e + tot r := by
  have := grown_add r (0 + dl e)
  unfold tot at *; unfold grown at this
  rw [List.foldl_cons, this]; omega
theorem tot_app (a b : List Ed) : tot (a ++ b) = tot a + tot b := by
  induction a with
  | nil => simp [tot]
  | cons e r ih => rw [List.cons_append, tot_cons, tot_cons, ih]; omega
theorem tot_perm {a b : List Ed} (h : a.Perm b) : tot a = tot b := by
  induction h with
  | nil => rfl
  | cons x _ ih => rw [tot_cons, tot_cons, ih]
  | swap x y l => rw [tot_cons, tot_cons, tot_cons, tot_cons]; omega
  | trans _ _ h1 h2 => rw [h1, h2]
/-- Rising from 'at' on, up to n. -/
def Chain (n : Int) : Int → List Ed → Prop
  | at', [] => at' ≤ n
  | at', e :: r => at' ≤ e.1.1 ∧ e.1.1 ≤ e.1.2 ∧ Chain n e.1.2 r
theorem chain_le {n : Int} {l : List Ed} : ∀ {a : Int}, Chain n a l → a ≤ n := by
  induction l with
  | nil => intro a h; exact h
  | cons e r ih => intro a h; obtain ⟨h1, h2, h3⟩ := h; have := ih h3; omega
theorem chain_mono {n : Int} {l : List Ed} {a b : Int} (h : Chain n a l) (hb : b ≤ a) : Chain n b l := by
  cases l with
  | nil => unfold Chain at *; omega
  | cons e r => obtain ⟨h1, h2, h3⟩ := h; exact ⟨by omega, h2, h3⟩
theorem chain_mem {n : Int} {l : List Ed} : ∀ {a : Int}, Chain n a l → ∀ e ∈ l, a ≤ e.1.1 ∧ e.1.1 ≤ e.1.2 ∧ e.1.2 ≤ n := by
  induction l with
  | nil => intro a _ e he; simp at he
  | cons x r ih =>
    intro a h e he
    obtain ⟨h1, h2, h3⟩ := h
    rcases List.mem_cons.1 he with rfl | he
    · exact ⟨h1, h2, chain_le h3⟩
    · have := ih h3 e he; omega
theorem chain_app {n : Int} {a b : List Ed} : ∀ {x : Int}, Chain n x (a ++ b) → Chain n x a ∧ ∀ y, x ≤ y → (∀ e ∈ a, e.1.2 ≤ y) → (∀ e ∈ b, y ≤ e.1.1) → y ≤ n → Chain n y b := by
  induction a with
  | nil => intro x h; exact ⟨chain_le h, fun y hy _ hb hn => by
      cases b with
      | nil => exact hn
      | cons e r => obtain ⟨_, h2, h3⟩ := h; exact ⟨hb e (by simp), h2, h3⟩⟩
  | cons e r ih =>
    intro x h
    obtain ⟨h1, h2, h3⟩ := h
    obtain ⟨h4, h5⟩ := ih h3
    exact ⟨⟨h1, h2, h4⟩, fun y hy ha hb hn => h5 y (ha e (by simp)) (fun u hu => ha u (by simp [hu])) hb hn⟩
theorem chain_right {n : Int} {a b : List Ed} : ∀ {x : Int}, Chain n x (a ++ b) → Chain n x b := by
  induction a with
  | nil => intro x h; exact h
  | cons e r ih => intro x h; obtain ⟨h1, h2, h3⟩ := h; exact chain_mono (ih h3) (by omega)
theorem chain_left {n : Int} {a b : List Ed} : ∀ {x : Int}, Chain n x (a ++ b) → Chain n x a := fun h => (chain_app h).1

/-- One edit of a text. -/
def one (s : Bs) (e : Ed) : Bs := s.take e.1.1.toNat ++ tx e ++ s.drop e.1.2.toNat
def appR (s : Bs) (l : List Ed) : Bs := l.foldr (fun e u => one u e) s
def appL (s : Bs) : Int → List Ed → Bs
  | a, [] => s.drop a.toNat
  | a, e :: r => (s.take e.1.1.toNat).drop a.toNat ++ tx e ++ appL s e.1.2 r
theorem appR_cons (s : Bs) (e : Ed) (r : List Ed) : appR s (e :: r) = one (appR s r) e := rfl
theorem appR_app (s : Bs) (a b : List Ed) : appR s (a ++ b) = appR (appR s b) a := by unfold appR; rw [List.foldr_append]
theorem one_len (s : Bs) (e : Ed) (h0 : 0 ≤ e.1.1) (h1 : e.1.1 ≤ e.1.2) (h2 : e.1.2 ≤ s.length) : ((one s e).length : Int) = s.length + dl e := by
  unfold one dl
  have := tx_len e
  simp only [List.length_append, List.length_take, List.length_drop]
  omega
theorem appL_appR (s : Bs) (l : List Ed) : ∀ a : Int, 0 ≤ a → Chain s.length a l → s.take a.toNat ++ appL s a l = appR s l := by
  induction l with
  | nil => intro a _ _; exact List.take_append_drop _ _
  | cons e r ih =>
    intro a h0 h
    obtain ⟨h1, h2, h3⟩ := h
    have hn := chain_le h3
    have hi := ih e.1.2 (by omega) h3
    have e1 : (s.take e.1.2.toNat).length = e.1.2.toNat := by rw [List.length_take]; omega
    have e2 : (appR s r).take e.1.1.toNat = s.take e.1.1.toNat := by
      rw [← hi, List.take_append_of_le_length (by omega), List.take_take]; congr 1; omega
    have e3 : (appR s r).drop e.1.2.toNat = appL s e.1.2 r := by
      rw [← hi, List.drop_append_of_le_length (by omega), List.drop_of_length_le (by omega)]; rfl
    rw [appR_cons]
    unfold one
    rw [e2, e3]
    show _ ++ ((s.take e.1.1.toNat).drop a.toNat ++ tx e ++ appL s e.1.2 r) = _
    rw [← List.append_assoc, ← List.append_assoc]
    congr 2
    have : s.take a.toNat = (s.take e.1.1.toNat).take a.toNat := by rw [List.take_take]; congr 1; omega
    rw [this, List.take_append_drop]
theorem appR_L (s : Bs) (l : List Ed) (h : Chain s.length 0 l) : appR s l = appL s 0 l := by
  rw [← appL_appR s l 0 (Int.le_refl _) h]; simp
theorem appR_len (s : Bs) (l : List Ed) : ∀ a, 0 ≤ a → Chain s.length a l → ((appR s l).length : Int) = s.length + tot l ∧ ∀ k : Int, k ≤ a → (appR s l).take k.toNat = s.take k.toNat := by
  induction l with
  | nil => intro a _ _; exact ⟨by simp [appR, tot], fun _ _ => rfl⟩
  | cons e r ih =>
    intro a h0 h
    obtain ⟨h1, h2, h3⟩ := h
    have hn := chain_le h3
    obtain ⟨h4, h5⟩ := ih e.1.2 (by omega) h3
    have hle : s.length + tot r ≥ e.1.2 := by
      have := h5 e.1.2 (Int.le_refl _)
      have := congrArg List.length this
      simp only [List.length_take] at this
      omega
    rw [appR_cons]
    refine ⟨by rw [one_len _ _ (by omega) h2 (by omega), h4, tot_cons]; omega, fun k hk => ?_⟩
    unfold one
    rw [List.append_assoc, List.take_append_of_le_length (by rw [List.length_take]; omega), List.take_take, ← h5 k (by omega)]
    congr 1; omega
-- the loop that builds the text from the left
theorem appL_snoc_inv (s : Bs) (l : List Ed) (k : Nat) (h : k < l.length) (a : Int) (acc : Bs) (hh : acc ++ appL s a (l.drop k) = appL s 0 l) :
    (acc ++ (s.take l[k].1.1.toNat).drop a.toNat ++ tx l[k]) ++ appL s l[k].1.2 (l.drop (k + 1)) = appL s 0 l := by
  rw [← hh, List.drop_eq_getElem_cons h]
  show _ = acc ++ (_ ++ _ ++ _)
  simp [List.append_assoc]
-- offsets
def mv1 (right : Bool) (a : Int) (e : Ed) : Int := if a < e.1.1 then a else if a > e.1.2 then a + dl e else if right then e.1.1 + len e else e.1.1
def mvR (right : Bool) (l : List Ed) (a : Int) : Int := l.foldr (fun e a => mv1 right a e) a
theorem mvR_cons (right : Bool) (e : Ed) (r : List Ed) (a : Int) : mvR right (e :: r) a = mv1 right (mvR right r a) e := rfl
theorem mvR_app (right : Bool) (a b : List Ed) (x : Int) : mvR right (a ++ b) x = mvR right a (mvR right b x) := by unfold mvR; rw [List.foldr_append]
theorem mv1_mono (right : Bool) (e : Ed) (he : e.1.1 ≤ e.1.2) {a b : Int} (h : a ≤ b) : mv1 right a e ≤ mv1 right b e := by
  have := len_nn e
  unfold mv1 dl
  repeat' split
  all_goals omega
theorem mv1_side (e : Ed) {a b : Int} (he : e.1.1 ≤ e.1.2) (h : a ≤ b) : mv1 false a e ≤ mv1 true b e := by
  have := len_nn e
  unfold mv1 dl
  simp only [if_true, Bool.false_eq_true, if_false]
  repeat' split
  all_goals omega
theorem mvR_mono (right : Bool) (l : List Ed) (hl : ∀ e ∈ l, e.1.1 ≤ e.1.2) {a b : Int} (h : a ≤ b) : mvR right l a ≤ mvR right l b := by
  induction l with
  | nil => exact h
  | cons e r ih => rw [mvR_cons, mvR_cons]; exact mv1_mono right e (hl e (by simp)) (ih fun x hx => hl x (by simp [hx]))
theorem mvR_side (l : List Ed) (hl : ∀ e ∈ l, e.1.1 ≤ e.1.2) {a b : Int} (h : a ≤ b) : mvR false l a ≤ mvR true l b := by
  induction l with
  | nil => exact h
  | cons e r ih => rw [mvR_cons, mvR_cons]; exact mv1_side e (hl e (by simp)) (ih fun x hx => hl x (by simp [hx]))
/-- Behind all edits, or at the last one's end: moved by all of them. -/
theorem mvR_past {n : Int} (l : List Ed) : ∀ (a x : Int), Chain n a l → (∀ e ∈ l, e.1.2 ≤ x) → a ≤ x → mvR true l x = x + tot l ∧ a ≤ x + tot l := by
  induction l with
  | nil => intro a x _ _ h; exact ⟨by simp [mvR, tot], by simpa [tot] using h⟩
  | cons e r ih =>
    intro a x h hx ha
    obtain ⟨h1, h2, h3⟩ := h
    obtain ⟨h4, h5⟩ := ih e.1.2 x h3 (fun u hu => hx u (by simp [hu])) (hx e (by simp))
    have := len_nn e
    rw [mvR_cons, h4, tot_cons]
    refine ⟨?_, by unfold dl; omega⟩
    unfold mv1 dl
    simp only [if_true]
    repeat' split
    all_goals omega
theorem mvR_past' {n : Int} (l : List Ed) : ∀ (a x : Int), Chain n a l → (∀ e ∈ l, e.1.2 < x) → a < x → mvR false l x = x + tot l ∧ a < x + tot l := by
  induction l with
  | nil => intro a x _ _ h; exact ⟨by simp [mvR, tot], by simpa [tot] using h⟩
  | cons e r ih =>
    intro a x h hx ha
    obtain ⟨h1, h2, h3⟩ := h
    obtain ⟨h4, h5⟩ := ih e.1.2 x h3 (fun u hu => hx u (by simp [hu])) (hx e (by simp))
    have := len_nn e
    rw [mvR_cons, h4, tot_cons]
    refine ⟨?_, by unfold dl; omega⟩
    unfold mv1 dl
    simp only [Bool.false_eq_true, if_false]
    repeat' split
    all_goals omega
theorem mvR_ahead (l : List Ed) (x : Int) (h : ∀ e ∈ l, x < e.1.1) (right : Bool) : mvR right l x = x := by
  induction l with
  | nil => rfl
  | cons e r ih =>
    have := h e (by simp)
    rw [mvR_cons, ih fun u hu => h u (by simp [hu])]
    unfold mv1; rw [if_pos this]
theorem mvR_ahead' (l : List Ed) (x : Int) (h : ∀ e ∈ l, x ≤ e.1.1 ∧ e.1.1 ≤ e.1.2) : mvR false l x = x := by
  induction l with
  | nil => rfl
  | cons e r ih =>
    have := h e (by simp)
    rw [mvR_cons, ih fun u hu => h u (by simp [hu])]
    unfold mv1
    simp only [Bool.false_eq_true, if_false]
    repeat' split
    all_goals omega
end Go.Proofs.Ytjkjgfgblfioeaa.EdM
