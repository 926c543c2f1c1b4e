/- Plain facts: terms and alternatives as lists, how deep a group is, what brackets make. No condition. -/
import Derived.Test.YtmacpmblodhcpaaGreatDoorZaV
namespace Go.Proofs.YtmacpmblodhcpaaGreatDoor
open SetM
set_option linter.unusedVariables false
theorem end_ne {l : List UInt8} (h : endB l = false) : l ≠ [] := by rintro rfl; cases h
theorem end_app {l u : List UInt8} (hl : l ≠ []) (hu : contH u = false) : endB (l ++ u) = endB l := by
  unfold endB
  rw [hd_app hl hu]
  cases l with
  | nil => exact absurd rfl hl
  | cons a l => rfl
/-- Kids' reading does not hang on what stands behind. -/
def PatL (pat : List UInt8 → Res) : Prop := ∀ l y s u, Stop u → s ≠ [] → pat l = .ok y s → pat (l ++ u) = .ok y (s ++ u)
theorem grpE_app {k : Int} {pat : List UInt8 → Res} (hp : PatL pat) {l u r : List UInt8} {x : Rt} (hu : Stop u) (h : grpE k (pat l) = .ok x r) : grpE k (pat (l ++ u)) = .ok x (r ++ u) := by
  cases hq : pat l with
  | no => rw [hq] at h; cases h
  | err n => rw [hq] at h; cases h
  | ok y s =>
    rw [hq] at h
    simp only [grpE] at h
    by_cases hs : (hdC s == [41]) = true
    · rw [if_pos hs] at h
      rw [hp l y s u hu (ne_hd hs) hq]
      simp only [grpE]
      rw [hd_app (ne_hd hs) hu.ct, tl_app (ne_hd hs) hu.ct, if_pos hs]
      cases h; rfl
    · rw [if_neg hs] at h; cases h
theorem grp_app {deep : Bool} {pat : List UInt8 → Res} (hp : deep = false → PatL pat) {l u r : List UInt8} {x : Rt} (hu : Stop u) (h : grpP deep pat l = .ok x r) : grpP deep pat (l ++ u) = .ok x (r ++ u) := by
  have hl : l = [] ∨ l ≠ [] := by cases l <;> simp
  unfold grpP at h ⊢
  by_cases hd : deep = true
  · rw [if_pos hd] at h; cases h
  rw [if_neg hd] at h ⊢
  have hp := hp (Bool.eq_false_iff.2 hd)
  rcases hl with rfl | hl
  · rw [show (hdC ([] : List UInt8) == [63]) = false from rfl, if_neg (by decide)] at h
    rw [List.nil_append, hu.q3, if_neg (by decide)]
    have := grpE_app hp (l := []) hu h
    rwa [List.nil_append] at this
  rw [hd_app hl hu.ct, tl_app hl hu.ct]
  by_cases h1 : (hdC l == [63]) = true
  · rw [if_pos h1] at h ⊢
    by_cases h2 : (hdC (tlC l) == [58]) = true
    · rw [if_pos h2] at h
      rw [hd_app (ne_hd h2) hu.ct, tl_app (ne_hd h2) hu.ct, if_pos h2]
      exact grpE_app hp hu h
    · rw [if_neg h2] at h; cases h
  · rw [if_neg h1] at h ⊢
    exact grpE_app hp hu h
theorem atom_app {deep : Bool} {pat : List UInt8 → Res} (hp : deep = false → PatL pat) {l u r : List UInt8} {x : Rt} (hl : l ≠ []) (hu : Stop u) (h : atomP deep pat l = .ok x r) : atomP deep pat (l ++ u) = .ok x (r ++ u) := by
  unfold atomP at h ⊢
  rw [hd_app hl hu.ct, tl_app hl hu.ct]
  by_cases k0 : (hdC l == [46]) = true
  · rw [if_pos k0] at h ⊢; cases h; rfl
  rw [if_neg k0] at h ⊢
  by_cases k1 : (hdC l == [40]) = true
  · rw [if_pos k1] at h ⊢; exact grp_app hp hu h
  rw [if_neg k1] at h ⊢
  by_cases k2 : (hdC l == [91]) = true
  · rw [if_pos k2] at h ⊢; exact class_app hu.ct h
  rw [if_neg k2] at h ⊢
  by_cases k3 : (hdC l == [92]) = true
  · rw [if_pos k3] at h ⊢; exact bak_app hu.ct h
  rw [if_neg k3] at h ⊢
  by_cases k4 : (hdC l == [42]) = true
  · rw [if_pos k4] at h; cases h
  rw [if_neg k4] at h ⊢
  by_cases k5 : (hdC l == [43]) = true
  · rw [if_pos k5] at h; cases h
  rw [if_neg k5] at h ⊢
  by_cases k6 : (hdC l == [63]) = true
  · rw [if_pos k6] at h; cases h
  rw [if_neg k6] at h ⊢
  by_cases k7 : (hdC l == [123]) = true
  · rw [if_pos k7] at h; cases h
  rw [if_neg k7] at h ⊢
  cases h; rfl
theorem term_app {deep : Bool} {pat : List UInt8 → Res} (hp : deep = false → PatL pat) {l u r : List UInt8} {x : Rt} (hl : l ≠ []) (hu : Stop u) (h : termP deep pat l = .ok x r) : termP deep pat (l ++ u) = .ok x (r ++ u) := by
  unfold termP at h ⊢
  rw [hd_app hl hu.ct, tl_app hl hu.ct]
  by_cases k0 : (hdC l == [94]) = true
  · rw [if_pos k0] at h ⊢; cases h; rfl
  rw [if_neg k0] at h ⊢
  by_cases k1 : (hdC l == [36]) = true
  · rw [if_pos k1] at h ⊢; cases h; rfl
  rw [if_neg k1] at h ⊢
  cases ha : atomP deep pat l with
  | no => rw [ha] at h; cases h
  | err n => rw [ha] at h; cases h
  | ok y s =>
    rw [ha] at h
    rw [atom_app hp hl hu ha]
    simp only at h ⊢
    by_cases hk : y.k = 10 ∨ y.k = 11
    · rw [if_pos hk] at h ⊢; cases h; rfl
    · rw [if_neg hk] at h ⊢; exact qnt_app hu h
/-- These terms are read there, one behind the other. -/
inductive TermsR (deep : Bool) (pat : List UInt8 → Res) : List UInt8 → List Rt → List UInt8 → Prop
  | nil (l : List UInt8) : TermsR deep pat l [] l
  | cons {l r1 r : List UInt8} {x : Rt} {ts : List Rt} (hE : endB l = false) (ht : termP deep pat l = .ok x r1) (h : TermsR deep pat r1 ts r) : TermsR deep pat l (x :: ts) r
theorem terms_of {deep : Bool} {pat : List UInt8 → Res} : ∀ (n : Nat) (acc : List Rt) (l : List UInt8) (x : Rt) (r : List UInt8), termsP deep pat n acc l = .ok x r → ∃ ts, TermsR deep pat l ts r ∧ endB r = true ∧ x = seqX (flK 0 (acc ++ ts))
  | 0, _, _, _, _, h => by cases h
  | n + 1, acc, l, x, r, h => by
    rw [termsP] at h
    by_cases hE : endB l = true
    · rw [if_pos hE] at h
      cases h
      exact ⟨[], .nil l, hE, by rw [List.append_nil]⟩
    · rw [if_neg hE] at h
      cases ht : termP deep pat l with
      | no => rw [ht] at h; cases h
      | err n => rw [ht] at h; cases h
      | ok y s =>
        rw [ht] at h
        obtain ⟨ts, h1, h2, h3⟩ := terms_of n (acc ++ [y]) s x r h
        exact ⟨y :: ts, .cons (Bool.eq_false_iff.2 hE) ht h1, h2, by rw [h3, List.append_assoc]; rfl⟩
theorem terms_to {deep : Bool} {pat : List UInt8 → Res} {l r : List UInt8} {ts : List Rt} (h : TermsR deep pat l ts r) : ∀ (n : Nat) (acc : List Rt), termsP deep pat (n + ts.length) acc l = termsP deep pat n (acc ++ ts) r := by
  induction h with
  | nil l => intro n acc; rw [List.append_nil]; rfl
  | cons hE ht h ih =>
    rename_i l r1 r x ts
    intro n acc
    rw [show n + (x :: ts).length = (n + ts.length) + 1 by simp; omega, termsP, hE, if_neg (by decide), ht]
    simp only
    rw [ih n (acc ++ [x]), List.append_assoc]; rfl
theorem TermsR.app {deep : Bool} {pat : List UInt8 → Res} (hp : deep = false → PatL pat) {l r u : List UInt8} {ts : List Rt} (h : TermsR deep pat l ts r) (hu : Stop u) : TermsR deep pat (l ++ u) ts (r ++ u) := by
  induction h with
  | nil l => exact .nil _
  | cons hE ht h ih => exact .cons (by rw [end_app (end_ne hE) hu.ct]; exact hE) (term_app hp (end_ne hE) hu ht) ih
theorem TermsR.trans {deep : Bool} {pat : List UInt8 → Res} {l r r' : List UInt8} {ts us : List Rt} (h : TermsR deep pat l ts r) (g : TermsR deep pat r us r') : TermsR deep pat l (ts ++ us) r' := by
  induction h with
  | nil l => exact g
  | cons hE ht h ih => exact .cons hE ht (ih g)
theorem TermsR.len {deep : Bool} {pat : List UInt8 → Res} (hg : deep = false → ∀ l, Gd 0 2 l (pat l)) {l r : List UInt8} {ts : List Rt} (h : TermsR deep pat l ts r) : ts.length + r.length ≤ l.length := by
  induction h with
  | nil l => simp
  | cons hE ht h ih =>
    have := term_gd hg _ (end_ne hE)
    rw [ht] at this
    have := this.1
    rw [List.length_cons]; omega
/-- All terms up to an end. -/
theorem terms_all {deep : Bool} {pat : List UInt8 → Res} (hg : deep = false → ∀ l, Gd 0 2 l (pat l)) {l r : List UInt8} {ts : List Rt} (h : TermsR deep pat l ts r) (hE : endB r = true) : termsP deep pat (l.length + 1) [] l = .ok (seqX (flK 0 ts)) r := by
  have hl := h.len hg
  obtain ⟨n, hn⟩ : ∃ n, l.length + 1 = (n + 1) + ts.length := ⟨l.length - ts.length, by omega⟩
  rw [hn, terms_to h, termsP, if_pos hE]; rfl
/-- These alternatives are read there. -/
inductive AltsR (deep : Bool) (pat : List UInt8 → Res) : List UInt8 → List Rt → List UInt8 → Prop
  | last {l r : List UInt8} {ts : List Rt} (ht : TermsR deep pat l ts r) (hE : endB r = true) (hq : (hdC r == [124]) = false) : AltsR deep pat l [seqX (flK 0 ts)] r
  | more {l r r' : List UInt8} {ts xs : List Rt} (ht : TermsR deep pat l ts r) (hq : (hdC r == [124]) = true) (h : AltsR deep pat (tlC r) xs r') : AltsR deep pat l (seqX (flK 0 ts) :: xs) r'
theorem end_bar {r : List UInt8} (h : (hdC r == [124]) = true) : endB r = true := by unfold endB; rw [h]; simp
theorem alts_of {deep : Bool} {pat : List UInt8 → Res} : ∀ (n : Nat) (acc : List Rt) (l : List UInt8) (x : Rt) (r : List UInt8), altsP deep pat n acc l = .ok x r → ∃ xs, AltsR deep pat l xs r ∧ x = altX (flK 1 (acc ++ xs))
  | 0, _, _, _, _, h => by cases h
  | n + 1, acc, l, x, r, h => by
    rw [altsP] at h
    cases ht : termsP deep pat (l.length + 1) [] l with
    | no => rw [ht] at h; cases h
    | err n => rw [ht] at h; cases h
    | ok y s =>
      rw [ht] at h
      simp only at h
      obtain ⟨ts, h1, h2, h3⟩ := terms_of _ _ _ _ _ ht
      rw [List.nil_append] at h3
      subst h3
      by_cases hq : (hdC s == [124]) = true
      · rw [if_pos hq] at h
        obtain ⟨xs, g1, g2⟩ := alts_of n _ _ _ _ h
        exact ⟨_ :: xs, .more h1 hq g1, by rw [g2, List.append_assoc]; rfl⟩
      · rw [if_neg hq] at h
        cases h
        exact ⟨[_], .last h1 h2 (Bool.eq_false_iff.2 hq), rfl⟩
theorem alts_to {deep : Bool} {pat : List UInt8 → Res} (hg : deep = false → ∀ l, Gd 0 2 l (pat l)) {l r : List UInt8} {xs : List Rt} (h : AltsR deep pat l xs r) : ∀ (n : Nat) (acc : List Rt), altsP deep pat (n + xs.length) acc l = .ok (altX (flK 1 (acc ++ xs))) r := by
  induction h with
  | last ht hE hq =>
    intro n acc
    rw [show n + [seqX (flK 0 _)].length = n + 1 from rfl, altsP, terms_all hg ht hE]
    simp only
    rw [hq, if_neg (by decide)]
  | more ht hq h ih =>
    rename_i l r r' ts xs
    intro n acc
    rw [show n + (seqX (flK 0 ts) :: xs).length = (n + xs.length) + 1 by simp; omega, altsP, terms_all hg ht (end_bar hq)]
    simp only
    rw [if_pos hq, ih, List.append_assoc]; rfl
theorem AltsR.len {deep : Bool} {pat : List UInt8 → Res} (hg : deep = false → ∀ l, Gd 0 2 l (pat l)) {l r : List UInt8} {xs : List Rt} (h : AltsR deep pat l xs r) : xs.length + r.length ≤ l.length + 1 := by
  induction h with
  | last ht hE hq => have := ht.len hg; simp; omega
  | more ht hq h ih => have := ht.len hg; have := hd_ne hq; rw [List.length_cons]; omega
theorem alts_all {deep : Bool} {pat : List UInt8 → Res} (hg : deep = false → ∀ l, Gd 0 2 l (pat l)) {l r : List UInt8} {xs : List Rt} (h : AltsR deep pat l xs r) : altsP deep pat (l.length + 1) [] l = .ok (altX (flK 1 xs)) r := by
  have := h.len hg
  obtain ⟨n, hn⟩ : ∃ n, l.length + 1 = n + xs.length := ⟨l.length + 1 - xs.length, by omega⟩
  rw [hn, alts_to hg h]; rfl
theorem AltsR.app {deep : Bool} {pat : List UInt8 → Res} (hp : deep = false → PatL pat) {l r u : List UInt8} {xs : List Rt} (h : AltsR deep pat l xs r) (hu : Stop u) (hr : r ≠ [] ∨ (endB u = true ∧ (hdC u == [124]) = false)) : AltsR deep pat (l ++ u) xs (r ++ u) := by
  induction h with
  | last ht hE hq =>
    rename_i l r ts
    by_cases h0 : r = []
    · subst h0
      have hr : endB u = true ∧ (hdC u == [124]) = false := by
        rcases hr with h | h
        · exact absurd rfl h
        · exact h
      exact .last (ht.app hp hu) hr.1 hr.2
    · exact .last (ht.app hp hu) (by rw [end_app h0 hu.ct]; exact hE) (by rw [hd_app h0 hu.ct]; exact hq)
  | more ht hq h ih =>
    exact .more (ht.app hp hu) (by rw [hd_app (ne_hd hq) hu.ct]; exact hq) (by rw [tl_app (ne_hd hq) hu.ct]; exact ih hr)
/-- Alternatives of both, the one behind the other. -/
theorem AltsR.bar {deep : Bool} {pat : List UInt8 → Res} (hp : deep = false → PatL pat) {l m r : List UInt8} {xs ys : List Rt} (h : AltsR deep pat l xs []) (hm : contH m = false) (g : AltsR deep pat m ys r) : AltsR deep pat (l ++ 124 :: m) (xs ++ ys) r := by
  have hu : Stop (124 :: m) := stop_sign hm (.inl rfl)
  obtain ⟨e1, e2⟩ := hd1 (y := 124) hm
  generalize hz : ([] : List UInt8) = z at h
  induction h with
  | last ht hE hq =>
    subst hz
    exact .more (ht.app hp hu) (by rw [List.nil_append, e1]; rfl) (by rw [List.nil_append, e2]; exact g)
  | more ht hq h ih =>
    exact .more (ht.app hp hu) (by rw [hd_app (ne_hd hq) hu.ct]; exact hq) (by rw [tl_app (ne_hd hq) hu.ct]; exact ih hz)
theorem patL_all : ∀ f, PatL (patP f)
  | 0, _, _, _, _, _, _, h => by cases h
  | f + 1, l, y, s, u, hu, hs, h => by
    obtain ⟨xs, h1, h2⟩ := alts_of _ _ _ _ _ h
    have hg : (f == 0) = false → ∀ l, Gd 0 2 l (patP f l) := by
      intro hf
      cases f with
      | zero => cases hf
      | succ f => exact pat_gd f
    have := alts_all hg (h1.app (fun _ => patL_all f) hu (.inl hs))
    rw [h2]; exact this
theorem gdL (f : Nat) : (f == 0) = false → ∀ l, Gd 0 2 l (patP f l) := by
  intro hf
  cases f with
  | zero => cases hf
  | succ f => exact pat_gd f
/-- A pattern ahead of an end. -/
theorem pat_app {f : Nat} {l u r : List UInt8} {x : Rt} (hu : Stop u) (hr : r ≠ [] ∨ (endB u = true ∧ (hdC u == [124]) = false)) (h : patP (f + 1) l = .ok x r) : patP (f + 1) (l ++ u) = .ok x (r ++ u) := by
  obtain ⟨xs, h1, h2⟩ := alts_of _ _ _ _ _ h
  have := alts_all (gdL f) (h1.app (fun _ => patL_all f) hu hr)
  rw [h2]; exact this
/- How deep what is made of parts is, how many groups it has. -/
theorem dL_flK {k : Int} (hk : k = 0 ∨ k = 1) (l : List Rt) : dL (flK k l) = dL l ∧ gL (flK k l) = gL l := by
  induction l with
  | nil => exact ⟨rfl, rfl⟩
  | cons a r ih =>
    unfold flK at ih ⊢
    rw [List.flatMap_cons, dL_app, gL_app, ih.1, ih.2]
    have e1 : dL (a :: r) = max (dM a) (dL r) := rfl
    have e2 : gL (a :: r) = gM a + gL r := rfl
    rw [e1, e2]
    split
    · rename_i h
      have h1 : dL (a.kids.map er) = dL a.kids := by rw [← erL_map]; exact dL_er _
      have h2 : gL (a.kids.map er) = gL a.kids := by rw [← erL_map]; exact gL_er _
      rw [h1, h2, dM_eq, gM_eq, if_neg (by omega), if_neg (by omega)]
      exact ⟨by omega, by omega⟩
    · have h1 : dL [er a] = max (dM (er a)) 0 := rfl
      have h2 : gL [er a] = gM (er a) + 0 := rfl
      rw [h1, h2, dM_er, gM_er]
      exact ⟨by omega, by omega⟩
theorem dM_kd {k : Int} (l : List Rt) : dM (kdX k l) = dL l + (if k = 5 ∨ k = 6 then 1 else 0) := by rw [dM_eq]; rfl
theorem gM_kd {k : Int} (l : List Rt) : gM (kdX k l) = (if k = 5 then 1 else 0) + gL l := by rw [gM_eq]; rfl
theorem dM_seqX (l : List Rt) : dM (seqX l) = dL l ∧ gM (seqX l) = gL l := by
  unfold seqX
  split
  · rename_i hl
    match l, hl with
    | [a], _ => exact ⟨by show dM a = max (dM a) 0; omega, by show gM a = gM a + 0; omega⟩
  · rw [dM_kd, gM_kd]; exact ⟨by simp, by simp⟩
theorem dM_altX (l : List Rt) : dM (altX l) = dL l ∧ gM (altX l) = gL l := by
  unfold altX
  split
  · rename_i hl
    rw [List.eq_nil_of_length_eq_zero hl, dM_kd, gM_kd]; exact ⟨by simp, by simp⟩
  split
  · rename_i hl
    match l, hl with
    | [a], _ => exact ⟨by show dM a = max (dM a) 0; omega, by show gM a = gM a + 0; omega⟩
  · rw [dM_kd, gM_kd]; exact ⟨by simp, by simp⟩
theorem chX_k (c : ByteArray) : (chX c).k = 2 := rfl
/-- Kids' reading where fewer groups may be opened. -/
def PatD (g : Nat) (deep' : Bool) (pat pat' : List UInt8 → Res) : Prop := (deep' = true → g = 0) ∧ ∀ l y s, pat l = .ok y s → deep' = false → pat' l = if dM y + 1 ≤ g then .ok y s else .err 8
theorem atom_dp {g : Nat} {deep deep' : Bool} {pat pat' : List UInt8 → Res} (hd : PatD g deep' pat pat') {l r : List UInt8} {x : Rt} (h : atomP deep pat l = .ok x r) : atomP deep' pat' l = if dM x ≤ g then .ok x r else .err 8 := by
  have lf : ∀ {q : Res}, q = .ok x r → x.kids = [] → x.k ≠ 5 → x.k ≠ 6 → q = if dM x ≤ g then .ok x r else .err 8 := by
    intro q hq hk h5 h6
    rw [hq, if_pos]
    rw [dM_eq, hk, if_neg (by omega)]; exact Nat.zero_le _
  have gE : ∀ {k : Int} {l' : List UInt8}, (k = 5 ∨ k = 6) → deep' = false → grpE k (pat l') = .ok x r → grpE k (pat' l') = if dM x ≤ g then .ok x r else .err 8 := by
    intro k l' hk hd' he
    cases hq : pat l' with
    | no => rw [hq] at he; cases he
    | err n => rw [hq] at he; cases he
    | ok y s =>
      rw [hq] at he
      rw [hd.2 _ _ _ hq hd']
      simp only [grpE] at he
      by_cases hs : (hdC s == [41]) = true
      · rw [if_pos hs] at he
        cases he
        have hdm : dM (kdX k [y]) = dM y + 1 := by rw [dM_kd, if_pos hk]; show max (dM y) 0 + 1 = _; omega
        rw [hdm]
        by_cases hg : dM y + 1 ≤ g
        · rw [if_pos hg, if_pos hg]; simp only [grpE]; rw [if_pos hs]
        · rw [if_neg hg, if_neg hg]; rfl
      · rw [if_neg hs] at he; cases he
  unfold atomP at h ⊢
  by_cases k0 : (hdC l == [46]) = true
  · rw [if_pos k0] at h ⊢; cases h; exact lf rfl rfl (by decide) (by decide)
  rw [if_neg k0] at h ⊢
  by_cases k1 : (hdC l == [40]) = true
  · rw [if_pos k1] at h ⊢
    unfold grpP at h ⊢
    by_cases hdp : deep = true
    · rw [if_pos hdp] at h; cases h
    rw [if_neg hdp] at h
    by_cases hd2 : deep' = true
    · rw [if_pos hd2]
      have hg0 := hd.1 hd2
      have : 1 ≤ dM x := by
        have dk : ∀ {k : Int} {l' : List UInt8}, (k = 5 ∨ k = 6) → grpE k (pat l') = .ok x r → 1 ≤ dM x := by
          intro k l' hk he
          cases hq : pat l' with
          | no => rw [hq] at he; cases he
          | err n => rw [hq] at he; cases he
          | ok y s =>
            rw [hq] at he
            simp only [grpE] at he
            split at he
            · cases he; rw [dM_kd, if_pos hk]; omega
            · cases he
        split at h
        · split at h
          · exact dk (.inr rfl) h
          · cases h
        · exact dk (.inl rfl) h
      rw [if_neg (by omega)]
    · rw [if_neg hd2]
      have hd2 := Bool.eq_false_iff.2 hd2
      by_cases k2 : (hdC (tlC l) == [63]) = true
      · rw [if_pos k2] at h ⊢
        by_cases k3 : (hdC (tlC (tlC l)) == [58]) = true
        · rw [if_pos k3] at h ⊢; exact gE (.inr rfl) hd2 h
        · rw [if_neg k3] at h; cases h
      · rw [if_neg k2] at h ⊢; exact gE (.inl rfl) hd2 h
  rw [if_neg k1] at h ⊢
  by_cases k2 : (hdC l == [91]) = true
  · rw [if_pos k2] at h ⊢
    have hk : x.kids = [] ∧ x.k = 4 := by
      unfold classP at h
      split at h
      · cases h
      · cases h; exact ⟨rfl, rfl⟩
    exact lf h hk.1 (by omega) (by omega)
  rw [if_neg k2] at h ⊢
  by_cases k3 : (hdC l == [92]) = true
  · rw [if_pos k3] at h ⊢
    have hk : x.kids = [] ∧ x.k ≠ 5 ∧ x.k ≠ 6 := by
      have h2 := h
      unfold bakP at h2
      repeat' split at h2
      all_goals first
        | (cases h2; done)
        | (cases h2; exact ⟨rfl, by first | decide | (rw [chX_k]; decide), by first | decide | (rw [chX_k]; decide)⟩)
    exact lf h hk.1 hk.2.1 hk.2.2
  rw [if_neg k3] at h ⊢
  by_cases k4 : (hdC l == [42]) = true
  · rw [if_pos k4] at h; cases h
  rw [if_neg k4] at h ⊢
  by_cases k5 : (hdC l == [43]) = true
  · rw [if_pos k5] at h; cases h
  rw [if_neg k5] at h ⊢
  by_cases k6 : (hdC l == [63]) = true
  · rw [if_pos k6] at h; cases h
  rw [if_neg k6] at h ⊢
  by_cases k7 : (hdC l == [123]) = true
  · rw [if_pos k7] at h; cases h
  rw [if_neg k7] at h ⊢
  cases h; exact lf rfl rfl (by rw [chX_k]; decide) (by rw [chX_k]; decide)
theorem qnt_dp {x y : Rt} {l r : List UInt8} (h : qntP x l = .ok y r) : dM y = dM x := by
  have lz : ∀ {mi ma : Int} {r0 : List UInt8}, lazP mi ma x r0 = .ok y r → dM y = dM x := by
    intro mi ma r0 h
    unfold lazP at h
    cases h
    rw [dM_eq]; show max (dM x) 0 + 0 = _; omega
  unfold qntP at h
  split at h
  · exact lz h
  split at h
  · exact lz h
  split at h
  · exact lz h
  split at h
  · split at h
    · cases h
    · exact lz h
  · cases h; rfl
theorem term_dp {g : Nat} {deep deep' : Bool} {pat pat' : List UInt8 → Res} (hd : PatD g deep' pat pat') {l r : List UInt8} {x : Rt} (h : termP deep pat l = .ok x r) : termP deep' pat' l = if dM x ≤ g then .ok x r else .err 8 := by
  unfold termP at h ⊢
  by_cases k0 : (hdC l == [94]) = true
  · rw [if_pos k0] at h ⊢; cases h; rw [if_pos]; rw [dM_kd]; exact Nat.zero_le _
  rw [if_neg k0] at h ⊢
  by_cases k1 : (hdC l == [36]) = true
  · rw [if_pos k1] at h ⊢; cases h; rw [if_pos]; rw [dM_kd]; exact Nat.zero_le _
  rw [if_neg k1] at h ⊢
  cases ha : atomP deep pat l with
  | no => rw [ha] at h; cases h
  | err n => rw [ha] at h; cases h
  | ok y s =>
    rw [ha] at h
    rw [atom_dp hd ha]
    simp only at h
    by_cases hk : y.k = 10 ∨ y.k = 11
    · rw [if_pos hk] at h
      cases h
      by_cases hg : dM x ≤ g
      · rw [if_pos hg]; simp only; rw [if_pos hk]
      · rw [if_neg hg]
    · rw [if_neg hk] at h
      rw [qnt_dp h]
      by_cases hg : dM y ≤ g
      · rw [if_pos hg, if_pos hg]; simp only; rw [if_neg hk, h]
      · rw [if_neg hg, if_neg hg]
theorem terms_dp {g : Nat} {deep deep' : Bool} {pat pat' : List UInt8 → Res} (hd : PatD g deep' pat pat') {l r : List UInt8} {ts : List Rt} (h : TermsR deep pat l ts r) : ∀ (n : Nat) (acc : List Rt), termsP deep' pat' (n + ts.length) acc l = if dL ts ≤ g then termsP deep' pat' n (acc ++ ts) r else .err 8 := by
  induction h with
  | nil l => intro n acc; rw [List.append_nil, if_pos (show dL ([] : List Rt) ≤ g from Nat.zero_le _)]; rfl
  | cons hE ht h ih =>
    rename_i l r1 r x ts
    intro n acc
    have e1 : dL (x :: ts) = max (dM x) (dL ts) := rfl
    rw [show n + (x :: ts).length = (n + ts.length) + 1 by simp; omega, termsP, hE, if_neg (by decide), term_dp hd ht, e1]
    by_cases hg : dM x ≤ g
    · rw [if_pos hg]
      simp only
      rw [ih n (acc ++ [x]), List.append_assoc]
      by_cases h2 : dL ts ≤ g
      · rw [if_pos h2, if_pos (by omega)]; rfl
      · rw [if_neg h2, if_neg (by omega)]
    · rw [if_neg hg, if_neg (by omega)]
theorem alts_dp {g : Nat} {deep deep' : Bool} {pat pat' : List UInt8 → Res} (hg : deep = false → ∀ l, Gd 0 2 l (pat l)) (hd : PatD g deep' pat pat') {l r : List UInt8} {xs : List Rt} (h : AltsR deep pat l xs r) : ∀ (n : Nat) (acc : List Rt), altsP deep' pat' (n + xs.length) acc l = if dL xs ≤ g then .ok (altX (flK 1 (acc ++ xs))) r else .err 8 := by
  have tt : ∀ {l r : List UInt8} {ts : List Rt}, TermsR deep pat l ts r → endB r = true → termsP deep' pat' (l.length + 1) [] l = if dL ts ≤ g then .ok (seqX (flK 0 ts)) r else .err 8 := by
    intro l r ts ht hE
    have hl := ht.len hg
    obtain ⟨n, hn⟩ : ∃ n, l.length + 1 = (n + 1) + ts.length := ⟨l.length - ts.length, by omega⟩
    rw [hn, terms_dp hd ht, termsP, if_pos hE]; rfl
  have sq : ∀ ts : List Rt, dM (seqX (flK 0 ts)) = dL ts := fun ts => by rw [(dM_seqX _).1, (dL_flK (.inl rfl) ts).1]
  induction h with
  | last ht hE hq =>
    rename_i l r ts
    intro n acc
    have e1 : dL [seqX (flK 0 ts)] = max (dM (seqX (flK 0 ts))) 0 := rfl
    rw [show n + [seqX (flK 0 ts)].length = n + 1 from rfl, altsP, tt ht hE, e1, sq]
    by_cases h2 : dL ts ≤ g
    · rw [if_pos h2, if_pos (by omega)]
      simp only
      rw [hq, if_neg (by decide)]
    · rw [if_neg h2, if_neg (by omega)]
  | more ht hq h ih =>
    rename_i l r r' ts xs
    intro n acc
    have e1 : dL (seqX (flK 0 ts) :: xs) = max (dM (seqX (flK 0 ts))) (dL xs) := rfl
    rw [show n + (seqX (flK 0 ts) :: xs).length = (n + xs.length) + 1 by simp; omega, altsP, tt ht (end_bar hq), e1, sq]
    by_cases h2 : dL ts ≤ g
    · rw [if_pos h2]
      simp only
      rw [if_pos hq, ih, List.append_assoc]
      by_cases h3 : dL xs ≤ g
      · rw [if_pos h3, if_pos (by omega)]; rfl
      · rw [if_neg h3, if_neg (by omega)]
    · rw [if_neg h2, if_neg (by omega)]
/-- A pattern that is read is read where fewer groups may be opened, if it is not too deep. -/
theorem pat_dp : ∀ (F f : Nat) (l : List UInt8) (x : Rt) (r : List UInt8), patP (F + 1) l = .ok x r → patP (f + 1) l = if dM x ≤ f then .ok x r else .err 8 := by
  intro F
  induction F with
  | zero =>
    intro f l x r h
    obtain ⟨xs, h1, h2⟩ := alts_of _ _ _ _ _ h
    have hd : PatD f (f == 0) (patP 0) (patP f) := ⟨fun h => beq_iff_eq.1 h, fun l y s h _ => by cases h⟩
    have := h1.len (gdL 0)
    obtain ⟨n, hn⟩ : ∃ n, l.length + 1 = n + xs.length := ⟨l.length + 1 - xs.length, by omega⟩
    have h3 := alts_dp (gdL 0) hd h1 n []
    rw [← hn] at h3
    rw [h2, (dM_altX _).1, (dL_flK (.inr rfl) _).1]
    exact h3
  | succ F ih =>
    intro f l x r h
    obtain ⟨xs, h1, h2⟩ := alts_of _ _ _ _ _ h
    have hd : PatD f (f == 0) (patP (F + 1)) (patP f) := ⟨fun h => beq_iff_eq.1 h, fun l y s h hf => by
      cases f with
      | zero => cases hf
      | succ f =>
        rw [ih f l y s h]
        by_cases hg : dM y ≤ f
        · rw [if_pos hg, if_pos (by omega)]
        · rw [if_neg hg, if_neg (by omega)]⟩
    have := h1.len (gdL (F + 1))
    obtain ⟨n, hn⟩ : ∃ n, l.length + 1 = n + xs.length := ⟨l.length + 1 - xs.length, by omega⟩
    have h3 := alts_dp (gdL (F + 1)) hd h1 n []
    rw [← hn] at h3
    rw [h2, (dM_altX _).1, (dL_flK (.inr rfl) _).1]
    exact h3
end Go.Proofs.YtmacpmblodhcpaaGreatDoor
