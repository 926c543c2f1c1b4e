/- Between first and last: what is found is all, and is found where all is taken. No condition. -/
import Derived.Test.YtcnliipkfccohabGreatSnG
namespace Go.Proofs.YtcnliipkfccohabGreat
open Go.ChangeShapes Go.WideShapes Go.ChangeAt Go.RowKit
open SetM SpanM
set_option maxRecDepth 100000
set_option linter.unusedVariables false
theorem plGo_ne (l : List UInt8) (k : Nat) : plGo l k ≠ [] := by
  intro h
  have := (plGo_in l k).2.2.2
  rw [h] at this
  exact Nat.lt_irrefl _ this
theorem plGo_last : ∀ (l : List UInt8) (k : Nat), (plGo l k).getLast? = some (k + l.length)
  | [], k => by simp [plGo]
  | c :: r, k => by
    have h1 := plGo_last r (k + 1)
    rw [plGo]
    split
    · rw [List.getLast?_cons, h1, Option.getD_some, List.length_cons]; congr 1; omega
    · rw [h1, List.length_cons]; congr 1; omega
theorem plGo_head (l : List UInt8) : (plGo l 0)[0]? = some 0 := by
  cases l with
  | nil => rfl
  | cons c r => rw [plGo, if_pos (.inl rfl)]; rfl
theorem psS_pos (s : ByteArray) : 0 < (psS s).length := (plGo_in s.data.toList 0).2.2.2
theorem ofG_zero (s : ByteArray) : ofG (psS s) 0 = 0 := by
  unfold ofG
  rw [List.getD_eq_getElem?_getD, show (psS s)[0]? = some 0 from plGo_head s.data.toList]
  rfl
theorem psS_zero (s : ByteArray) : ∃ h : 0 < (psS s).length, (((psS s)[0] : Nat) : Int) = 0 := by
  have h := plGo_head s.data.toList
  refine ⟨psS_pos s, ?_⟩
  have h2 : (psS s)[0]? = some 0 := h
  rw [List.getElem?_eq_getElem (psS_pos s)] at h2
  injection h2 with h2
  rw [h2]; rfl
theorem psS_mem (s : ByteArray) : (0 : Int) ∈ (psS s).map (fun (n : Nat) => (n : Int)) := by
  obtain ⟨h, e⟩ := psS_zero s
  exact List.mem_map.2 ⟨_, List.getElem_mem h, e⟩
theorem ofG_end (s : ByteArray) {j : Nat} (hj : j + 1 = (psS s).length) : ofG (psS s) j = (s.size : Int) := by
  have h : (psS s).getLast? = some (0 + s.data.toList.length) := plGo_last s.data.toList 0
  rw [List.getLast?_eq_getElem?, show (psS s).length - 1 = j by omega] at h
  unfold ofG
  rw [List.getD_eq_getElem?_getD, h, Option.getD_some]
  have h2 : s.data.toList.length = s.size := Array.length_toList
  omega
theorem ofG_short {s : ByteArray} {j : Nat} (hj : j + 1 < (psS s).length) : ofG (psS s) j < (s.size : Int) := by
  rw [← ofG_end s (j := (psS s).length - 1) (by omega)]
  unfold ofG
  rw [List.getD_eq_getElem?_getD, List.getD_eq_getElem?_getD, List.getElem?_eq_getElem (show j < (psS s).length by omega), List.getElem?_eq_getElem (show (psS s).length - 1 < (psS s).length by omega), Option.getD_some, Option.getD_some]
  have := List.pairwise_iff_getElem.1 (plGo_strict s.data.toList 0) j ((psS s).length - 1) (by show j < (psS s).length; omega) (by show _ < (psS s).length; omega) (by omega)
  have h2 : (psS s)[j] < (psS s)[(psS s).length - 1] := this
  omega
theorem er1ch (x : Rt) : (er x).ch = x.ch := by rw [er_eq]; rfl
theorem er1nt (x : Rt) : (er x).nt = x.nt := by rw [er_eq]; rfl
theorem er1rows (x : Rt) : (er x).rows = x.rows := by rw [er_eq]; rfl
theorem tkG_er (s : ByteArray) (ps : List Nat) (fold : Bool) (x : Rt) (i : Nat) : tkG s ps fold (er x) i = tkG s ps fold x i := by
  unfold tkG accB
  rw [er1k, er1ch, er1nt, er1rows]
theorem tk8 (s : ByteArray) (ps : List Nat) (fold : Bool) (i : Nat) : tkG s ps fold (kdX 8 []) i = if i = 0 then some 0 else none := rfl
theorem tk9 (s : ByteArray) (ps : List Nat) (fold : Bool) (i : Nat) : tkG s ps fold (kdX 9 []) i = if i + 1 = ps.length then some 0 else none := rfl
/-- All from the first to the last. -/
def zE (x : Rt) : Rt := kdX 0 [kdX 8 [], kdX 6 [er x], kdX 9 []]
theorem zE_hold (x : Rt) : holdsK (zE x).kids 0 = [.hold (kdX 8 []) 0, .hold (kdX 6 [er x]) 0, .hold (kdX 9 []) (gM x)] := by
  show holdsK [kdX 8 [], kdX 6 [er x], kdX 9 []] 0 = _
  have h1 : gM (kdX 8 []) = 0 := by rw [gM_eq]; rfl
  have h2 : gM (kdX 6 [er x]) = gM x := by rw [gM_eq]; show 0 + (gM (er x) + 0) = _; rw [gM_er]; omega
  rw [holdsK, holdsK, holdsK, holdsK, h1, h2]
  simp
theorem zE_gM (x : Rt) : gM (zE x) = gM x := by
  rw [gM_eq]; show 0 + (gM (kdX 8 []) + (gM (kdX 6 [er x]) + (gM (kdX 9 []) + 0))) = _
  have h1 : gM (kdX 8 []) = 0 := by rw [gM_eq]; rfl
  have h2 : gM (kdX 6 [er x]) = gM x := by rw [gM_eq]; show 0 + (gM (er x) + 0) = _; rw [gM_er]; omega
  have h3 : gM (kdX 9 []) = 0 := by rw [gM_eq]; rfl
  omega
section
variable {s : ByteArray} {ps : List Nat} {fold : Bool}
theorem ze_out {x : Rt} {F st j f : Nat} {p q : List (Int × Int)} (h : On (ofG ps) (tkG s ps fold) F [.hold (zE x) 0] st p (.found j q f)) : st = 0 ∧ j + 1 = ps.length := by
  cases h with
  | seq _ _ _ _ _ _ _ hk h =>
    rw [zE_hold] at h
    have h0 : st = 0 := by
      cases h with
      | yes f _ _ _ _ _ n _ hk ht h =>
        rw [tk8] at ht
        split at ht
        · assumption
        · cases ht
      | seq _ _ _ _ _ _ _ hk => exact absurd hk (by decide)
      | alt _ _ _ _ _ _ _ hk => exact absurd hk (by decide)
      | rep _ _ _ _ _ _ _ hk => exact absurd hk (by decide)
      | group _ _ _ _ _ _ _ _ hk => exact absurd hk (by decide)
      | bare _ _ _ _ _ _ _ _ hk => exact absurd hk (by decide)
    refine ⟨h0, ?_⟩
    obtain ⟨f2, i2, p2, h2⟩ := on_tail (ofG ps) (tkG s ps fold) [.hold (kdX 9 []) (gM x)] h [.hold (kdX 8 []) 0, .hold (kdX 6 [er x]) 0] rfl j q f rfl
    cases h2 with
    | yes f _ _ _ _ _ n _ hk ht h =>
      rw [tk9] at ht
      split at ht
      · injection ht with ht
        subst ht
        cases h with
        | nil => omega
      · cases ht
    | seq _ _ _ _ _ _ _ hk => exact absurd hk (by decide)
    | alt _ _ _ _ _ _ _ hk => exact absurd hk (by decide)
    | rep _ _ _ _ _ _ _ hk => exact absurd hk (by decide)
    | group _ _ _ _ _ _ _ _ hk => exact absurd hk (by decide)
    | bare _ _ _ _ _ _ _ _ hk => exact absurd hk (by decide)
  | alt _ _ _ _ _ _ _ hk => exact absurd hk (by show ¬ (0 : Int) = 1; decide)
  | rep _ _ _ _ _ _ _ hk => exact absurd hk (by show ¬ (0 : Int) = 7; decide)
  | group _ _ _ _ _ _ _ _ hk => exact absurd hk (by show ¬ (0 : Int) = 5; decide)
  | bare _ _ _ _ _ _ _ _ hk => exact absurd hk (by show ¬ (0 : Int) = 6; decide)
  | yes _ _ _ _ _ _ _ _ hk => exact absurd rfl hk.1
theorem ze_in {x : Rt} {F j f : Nat} {p q : List (Int × Int)} (h : On (ofG ps) (tkG s ps fold) F [.hold x 0] 0 p (.found j q f)) (hj : j + 1 = ps.length) (b : Nat) : ∃ f', On (ofG ps) (tkG s ps fold) (F + b + 3) [.hold (zE x) 0] 0 p (.found j q f') := by
  have h1 := on_er (ofG ps) (tkG s ps fold) (tkG_er s ps fold) h
  have h2 := on_sh (ofG ps) (tkG s ps fold) h1 (by intro e; cases e) (a := 0) (b := b + 1) (Nat.zero_le _)
  have h3 := on_app (ofG ps) (tkG s ps fold) [.hold (kdX 9 []) (gM x)] h2 (.found j q (f + b)) (by
    show On _ _ (f - 0 + (b + 1)) _ _ _ _ ∧ _
    refine ⟨?_, fun f'' e => by cases e⟩
    rw [show f - 0 + (b + 1) = f + b + 1 by omega]
    exact .yes _ _ _ _ _ _ 0 _ (by decide) (by rw [tk9, if_pos hj]) (.nil _ _ _))
  rw [show F - 0 + (b + 1) = F + b + 1 by omega] at h3
  refine ⟨f + b, .seq _ _ _ _ _ _ _ rfl ?_⟩
  rw [zE_hold]
  exact .yes _ _ _ _ _ _ 0 _ (by decide) (by rw [tk8, if_pos rfl]) (.bare _ _ (er x) _ _ _ _ _ rfl rfl h3)
end
theorem whole_q {x t : Rt} {s : ByteArray} {fold : Bool} {q q' : An} (hx : cnB x 16 512 = true) (hc : cnB t 16 512 = true) (ht : er t = zE x) (hf : FiQ t fold s 0 5000 q) (ha : AtQ x fold s 0 2000 q') :
    (q.n = 0 ∨ q.n = 9) ∧ (q.ok = true → q.n = 0 ∧ q.a = 0 ∧ q.b = (s.size : Int)) ∧ (q'.n = 0 → q'.ok = true → ¬ q'.b < (s.size : Int) → q.ok = true) := by
  have hg : gM t = gM x := by rw [← gM_er t, ht, zE_gM]
  unfold FiQ at hf
  unfold AtQ at ha
  rw [if_neg (by rw [hc]; decide), if_pos (psS_mem s)] at hf
  rw [if_neg (by rw [hx]; decide), if_pos (psS_mem s)] at ha
  obtain ⟨i, st, r, hi, hfd, rfl⟩ := hf
  obtain ⟨i', r', hi', ho, rfl⟩ := ha
  obtain rfl := ps_one hi (psS_zero s)
  obtain rfl := ps_one hi' (psS_zero s)
  have he : ∀ {F st p r}, On (ofG (psS s)) (tkG s (psS s) fold) F [.hold t 0] st p r → On (ofG (psS s)) (tkG s (psS s) fold) F [.hold (zE x) 0] st p r := by
    intro F st p r h
    have := on_er (ofG (psS s)) (tkG s (psS s) fold) (tkG_er s (psS s) fold) h
    rw [← ht]; exact this
  refine ⟨?_, ?_, ?_⟩
  · cases r with
    | dry => exact .inr rfl
    | fail f => exact .inl rfl
    | found j p f => exact .inl rfl
  · intro hok
    cases r with
    | dry => cases hok
    | fail f => cases hok
    | found j p f =>
      rcases fd_hit hfd with ⟨f', e⟩ | ⟨f', h1, h2, h3⟩
      · cases e
      · obtain ⟨h4, h5⟩ := ze_out (he h1)
        subst h4
        exact ⟨rfl, ofG_zero s, ofG_end s h5⟩
  · intro hn hok hb
    cases r' with
    | dry => cases hok
    | fail f => cases hok
    | found j p f =>
      have hin := on_span ho (psS_pos s)
      have hj : j + 1 = (psS s).length := by
        rcases Nat.lt_or_ge (j + 1) (psS s).length with h | h
        · exact absurd (ofG_short h) hb
        · have := hin.2.1; omega
      obtain ⟨f', h2⟩ := ze_in ho hj 2997
      rw [← hg] at h2
      cases hfd with
      | none _ _ h => exact absurd (psS_pos s) (by omega)
      | hit _ _ _ h hq hr =>
        obtain rfl := on_det _ _ (he hq) h2
        rfl
      | miss _ f' _ _ _ h hq h3 =>
        have := on_det _ _ (he hq) h2
        cases this
end Go.Proofs.YtcnliipkfccohabGreat
