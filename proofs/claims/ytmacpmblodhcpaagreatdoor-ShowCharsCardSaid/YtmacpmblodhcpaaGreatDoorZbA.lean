/- Plain facts: two texts with a bar between, side by side, in brackets, with a quantifier. No condition. -/
import Derived.Test.YtmacpmblodhcpaaGreatDoorZaW
namespace Go.Proofs.YtmacpmblodhcpaaGreatDoor
open SetM
set_option linter.unusedVariables false
theorem readP_to {l : List UInt8} (h1 : l.length ≤ 256) (h2 : contH l = false) {x : Rt} (h : patP 17 l = .ok x []) : readP l = .ok x [] := by
  unfold readP
  rw [if_neg (by omega), h2, if_neg (by decide), h]; rfl
theorem readP_er {l : List UInt8} (h1 : l.length ≤ 256) (h2 : contH l = false) {n : Int} (h : patP 17 l = .err n) : readP l = .err n := by
  unfold readP
  rw [if_neg (by omega), h2, if_neg (by decide), h]; rfl
/-- The first alternative's terms begin with no sign of a quantifier. -/
theorem terms_stop {deep : Bool} {pat : List UInt8 → Res} {l r : List UInt8} {ts : List Rt} (h : TermsR deep pat l ts r) (hE : endB r = true) (hc : contH l = false) : Stop l := by
  cases h with
  | nil =>
    unfold endB at hE
    simp only [Bool.or_eq_true, List.isEmpty_iff] at hE
    rcases hE with h | h | h
    · subst h; exact stop_nil
    · have h := beq_iff_eq.1 h; exact ⟨hc, by rw [h]; rfl, by rw [h]; rfl, by rw [h]; rfl, by rw [h]; rfl⟩
    · have h := beq_iff_eq.1 h; exact ⟨hc, by rw [h]; rfl, by rw [h]; rfl, by rw [h]; rfl, by rw [h]; rfl⟩
  | cons hE2 ht h =>
    have no : ∀ y : UInt8, y = 42 ∨ y = 43 ∨ y = 63 ∨ y = 123 → (hdC l == [y]) = false := by
      intro y hy
      rw [Bool.eq_false_iff]
      intro hq
      have hq := beq_iff_eq.1 hq
      have : ∃ n, termP deep pat l = .err n := by
        unfold termP
        rw [hq]
        rcases hy with rfl | rfl | rfl | rfl
        all_goals
          rw [if_neg (by decide), if_neg (by decide)]
          unfold atomP
          rw [hq]
          exact ⟨10, rfl⟩
      obtain ⟨n, hn⟩ := this
      rw [hn] at ht
      cases ht
    exact ⟨hc, no _ (by simp), no _ (by simp), no _ (by simp), no _ (by simp)⟩
theorem alts_stop {deep : Bool} {pat : List UInt8 → Res} {l r : List UInt8} {xs : List Rt} (h : AltsR deep pat l xs r) (hc : contH l = false) : Stop l := by
  cases h with
  | last ht hE hq => exact terms_stop ht hE hc
  | more ht hq h => exact terms_stop ht (end_bar hq) hc
/-- What terms there are: each may be, none is a sequence or alternatives. -/
theorem terms_acc {g : Nat} {deep : Bool} {pat : List UInt8 → Res} (hp : PatV g deep pat) {l r : List UInt8} {ts : List Rt} (h : TermsR deep pat l ts r) (hc : contH l = false) : (∀ x ∈ ts, KdT x ∧ er x = x) := by
  induction h with
  | nil l => intro x hx; cases hx
  | cons hE ht h ih =>
    rename_i l r1 r x ts
    obtain ⟨hv, hk⟩ := term_va hp hc (end_ne hE) ht
    have hey : er x = x := by
      have := term_gd (fun hd => (hp hd).2.1) l (end_ne hE)
      rw [ht] at this
      exact this.2.2
    intro z hz
    rcases List.mem_cons.1 hz with rfl | hz
    · exact ⟨hk, hey⟩
    · exact ih hv.ct z hz
theorem map_self {l : List Rt} (h : ∀ x ∈ l, er x = x) : l.map er = l := by
  induction l with
  | nil => rfl
  | cons a r ih => rw [List.map_cons, h a List.mem_cons_self, ih (fun x hx => h x (List.mem_cons_of_mem _ hx))]
theorem flK0_ts {ts : List Rt} (h : ∀ x ∈ ts, KdT x ∧ er x = x) : flK 0 ts = ts := flK_none (fun x hx => (kdT_seq (h x hx).1).2.1) (map_self (fun x hx => (h x hx).2))
/-- A sequence of terms, flattened, is its terms. -/
theorem flK_seqX {ts : List Rt} (h : ∀ x ∈ ts, KdT x ∧ er x = x) : flK 0 [seqX ts] = ts := by
  unfold seqX
  split
  · rename_i hl
    match ts, hl, h with
    | [a], _, h => exact flK0_ts h
  · unfold flK
    rw [List.flatMap_cons, List.flatMap_nil, List.append_nil, if_pos (show (kdX 0 ts).k = 0 from rfl)]
    exact map_self (fun x hx => (h x hx).2)
theorem seqX_k {ts : List Rt} (h : ∀ x ∈ ts, KdT x ∧ er x = x) : (seqX ts).k ≠ 1 ∧ er (seqX ts) = seqX ts := by
  have := seqX_gd ts (map_self (fun x hx => (h x hx).2))
  refine ⟨?_, this.2⟩
  unfold seqX
  split
  · rename_i hl
    match ts, hl, h with
    | [a], _, h => exact (kdT_seq (h a (by simp)).1).2.2
  · show (0 : Int) ≠ 1; decide
theorem alts_acc {g : Nat} {deep : Bool} {pat : List UInt8 → Res} (hp : PatV g deep pat) {l r : List UInt8} {xs : List Rt} (h : AltsR deep pat l xs r) (hc : contH l = false) : xs ≠ [] ∧ ∀ x ∈ xs, x.k ≠ 1 ∧ er x = x := by
  have one : ∀ {l r : List UInt8} {ts : List Rt}, TermsR deep pat l ts r → contH l = false → (seqX (flK 0 ts)).k ≠ 1 ∧ er (seqX (flK 0 ts)) = seqX (flK 0 ts) := by
    intro l r ts ht hc
    have := terms_acc hp ht hc
    rw [flK0_ts this]
    exact seqX_k this
  induction h with
  | last ht hE hq => exact ⟨by simp, fun x hx => by obtain rfl : x = _ := (by simpa using hx); exact one ht hc⟩
  | more ht hq h ih =>
    refine ⟨by simp, fun x hx => ?_⟩
    rcases List.mem_cons.1 hx with rfl | hx
    · exact one ht hc
    · exact (ih (contH_tl _)).2 x hx
theorem flK1_xs {xs : List Rt} (h : ∀ x ∈ xs, x.k ≠ 1 ∧ er x = x) : flK 1 xs = xs := flK_none (fun x hx => (h x hx).1) (map_self (fun x hx => (h x hx).2))
theorem flK_altX {xs : List Rt} (h0 : xs ≠ []) (h : ∀ x ∈ xs, x.k ≠ 1 ∧ er x = x) : flK 1 [altX xs] = xs := by
  unfold altX
  rw [if_neg (by simpa using h0)]
  split
  · rename_i hl
    match xs, hl, h with
    | [a], _, h => exact flK1_xs h
  · unfold flK
    rw [List.flatMap_cons, List.flatMap_nil, List.append_nil, if_pos (show (kdX 1 xs).k = 1 from rfl)]
    exact map_self (fun x hx => (h x hx).2)
theorem flK_two (k : Int) (x y : Rt) : flK k [x, y] = flK k [x] ++ flK k [y] := by
  unfold flK; simp
theorem patV16 : PatV 16 false (patP 16) := fun _ => ⟨by decide, pat_gd 15, fun l y s h1 h2 => (pat_va 15 l y s h1 h2).1⟩
theorem readP_alts {l : List UInt8} {x : Rt} (h : readP l = .ok x []) : l.length ≤ 256 ∧ contH l = false ∧ ∃ xs, AltsR false (patP 16) l xs [] ∧ x = altX xs ∧ xs ≠ [] ∧ ∀ x ∈ xs, x.k ≠ 1 ∧ er x = x := by
  obtain ⟨h1, h2, _, h3, _⟩ := readP_va h
  obtain ⟨xs, g1, g2⟩ := alts_of (deep := false) (pat := patP 16) _ _ _ _ _ h3
  obtain ⟨g3, g4⟩ := alts_acc patV16 g1 h2
  rw [List.nil_append, flK1_xs g4] at g2
  exact ⟨h1, h2, xs, g1, g2, g3, g4⟩
theorem readP_alt {s t : List UInt8} {x y : Rt} (h : readP s = .ok x []) (g : readP t = .ok y []) (hz : s.length + t.length + 1 ≤ 256) : readP (s ++ 124 :: t) = .ok (altX (flK 1 [x, y])) [] := by
  obtain ⟨h1, h2, xs, h3, h4, h5, h6⟩ := readP_alts h
  obtain ⟨g1, g2, ys, g3, g4, g5, g6⟩ := readP_alts g
  have hb := h3.bar (fun _ => patL_all 16) g2 g3
  have ha := alts_all (fun _ => pat_gd 15) hb
  rw [h4, g4, flK_two, flK_altX h5 h6, flK_altX g5 g6]
  refine readP_to (by rw [List.length_append, List.length_cons]; omega) ?_ ?_
  · cases s with
    | nil => rfl
    | cons a s => exact h2
  · have : flK 1 (xs ++ ys) = xs ++ ys := flK1_xs (fun x hx => by
      rcases List.mem_append.1 hx with hx | hx
      · exact h6 x hx
      · exact g6 x hx)
    rw [this] at ha
    exact ha
theorem altX_one {xs : List Rt} (h0 : xs ≠ []) (hk : (altX xs).k ≠ 1) : ∃ a, xs = [a] := by
  unfold altX at hk
  rw [if_neg (by simpa using h0)] at hk
  split at hk
  · rename_i hl
    match xs, hl with
    | [a], _ => exact ⟨a, rfl⟩
  · exact absurd rfl hk
theorem readP_seq {s t : List UInt8} {x y : Rt} (h : readP s = .ok x []) (g : readP t = .ok y []) (hx : x.k ≠ 1) (hy : y.k ≠ 1) (hz : s.length + t.length ≤ 256) : readP (s ++ t) = .ok (seqX (flK 0 [x, y])) [] := by
  obtain ⟨h1, h2, xs, h3, h4, h5, h6⟩ := readP_alts h
  obtain ⟨g1, g2, ys, g3, g4, g5, g6⟩ := readP_alts g
  have st := alts_stop g3 g2
  rw [h4] at hx
  rw [g4] at hy
  obtain ⟨a, rfl⟩ := altX_one h5 hx
  obtain ⟨b, rfl⟩ := altX_one g5 hy
  cases h3 with
  | more ht hq h => cases h
  | last ht hE hq =>
    rename_i ts
    cases g3 with
    | more ht hq h => cases h
    | last ut uE uq =>
      rename_i us
      have k1 := terms_acc patV16 ht h2
      have k2 := terms_acc patV16 ut g2
      have htr := (ht.app (fun _ => patL_all 16) st).trans ut
      have ha := alts_all (fun _ => pat_gd 15) (.last htr uE uq)
      have k3 : ∀ x ∈ ts ++ us, KdT x ∧ er x = x := fun x hx => by
        rcases List.mem_append.1 hx with hx | hx
        · exact k1 x hx
        · exact k2 x hx
      have e1 : altX [seqX (flK 0 ts)] = seqX ts := by rw [flK0_ts k1]; rfl
      have e2 : altX [seqX (flK 0 us)] = seqX us := by rw [flK0_ts k2]; rfl
      rw [h4, g4, e1, e2, flK_two, flK_seqX k1, flK_seqX k2]
      refine readP_to (by rw [List.length_append]; omega) ?_ ?_
      · cases s with
        | nil => exact g2
        | cons a s => exact h2
      · have e3 : altX (flK 1 [seqX (flK 0 (ts ++ us))]) = seqX (ts ++ us) := by
          rw [flK0_ts k3]
          have := seqX_k k3
          rw [flK1_xs (xs := [seqX (ts ++ us)]) (fun x hx => by obtain rfl : x = _ := (by simpa using hx); exact this)]
          rfl
        rw [e3] at ha
        exact ha
/-- A group's beginning. -/
def preG (bare : Bool) : List UInt8 := if bare = true then [40, 63, 58] else [40]
def kG (bare : Bool) : Int := if bare = true then 6 else 5
theorem pre_atom {bare : Bool} {f : Nat} {l v : List UInt8} {y : Rt} {c : Prop} [Decidable c] (hl : contH l = false) (hb : bare = false → (hdC (l ++ 41 :: v) == [63]) = false) (hv : contH v = false) (h : patP (f + 1) (l ++ 41 :: v) = if c then .ok y (41 :: v) else .err 8) :
    atomP false (patP (f + 1)) (preG bare ++ (l ++ 41 :: v)) = if c then .ok (kdX (kG bare) [y]) v else .err 8 := by
  have hc : contH (l ++ 41 :: v) = false := by
    cases l with
    | nil => rfl
    | cons a l => exact hl
  obtain ⟨e1, e2⟩ := hd1 (y := 41) hv
  have fin : ∀ k : Int, grpE k (patP (f + 1) (l ++ 41 :: v)) = if c then .ok (kdX k [y]) v else .err 8 := by
    intro k
    rw [h]
    by_cases hcc : c
    · rw [if_pos hcc, if_pos hcc]; simp only [grpE]; rw [e1, e2]; rfl
    · rw [if_neg hcc, if_neg hcc]; rfl
  cases bare
  · obtain ⟨a1, a2⟩ := hd1 (y := 40) hc
    show atomP false (patP (f + 1)) (40 :: (l ++ 41 :: v)) = _
    unfold atomP
    rw [a1, a2, if_neg (by decide), if_pos (by decide)]
    unfold grpP
    rw [if_neg (by decide), hb rfl, if_neg (by decide)]
    exact fin 5
  · obtain ⟨c1, c2⟩ := hd1 (y := 58) hc
    obtain ⟨b1, b2⟩ := hd1 (y := 63) (u := 58 :: (l ++ 41 :: v)) rfl
    obtain ⟨a1, a2⟩ := hd1 (y := 40) (u := 63 :: 58 :: (l ++ 41 :: v)) rfl
    show atomP false (patP (f + 1)) (40 :: 63 :: 58 :: (l ++ 41 :: v)) = _
    unfold atomP
    rw [a1, a2, if_neg (by decide), if_pos (by decide)]
    unfold grpP
    rw [if_neg (by decide), b1, b2, if_pos (by decide), c1, c2, if_pos (by decide)]
    exact fin 6
theorem pre_deep (bare : Bool) (l : List UInt8) (hl : contH l = false) : atomP true (patP 0) (preG bare ++ l) = .err 8 := by
  cases bare
  · obtain ⟨a1, a2⟩ := hd1 (y := 40) hl
    show atomP true (patP 0) (40 :: l) = _
    unfold atomP
    rw [a1, if_neg (by decide), if_pos (by decide)]; rfl
  · obtain ⟨a1, a2⟩ := hd1 (y := 40) (u := 63 :: 58 :: l) rfl
    show atomP true (patP 0) (40 :: 63 :: 58 :: l) = _
    unfold atomP
    rw [a1, if_neg (by decide), if_pos (by decide)]; rfl
theorem pre_hd (bare : Bool) {l : List UInt8} (hl : contH l = false) : hdC (preG bare ++ l) = [40] := by
  cases bare
  · exact (hd1 hl).1
  · exact (hd1 (u := 63 :: 58 :: l) rfl).1
/-- A text in brackets, n times. -/
def wrapT (bare : Bool) (s : List UInt8) : Nat → List UInt8
  | 0 => s
  | n + 1 => preG bare ++ (wrapT bare s n ++ [41])
def wrapX (bare : Bool) (x : Rt) : Nat → Rt
  | 0 => x
  | n + 1 => kdX (kG bare) [wrapX bare x n]
theorem wrap_dM (bare : Bool) (x : Rt) (n : Nat) : dM (wrapX bare x n) = dM x + n := by
  induction n with
  | zero => rfl
  | succ n ih =>
    show dM (kdX (kG bare) [wrapX bare x n]) = _
    rw [dM_kd, if_pos (by cases bare; exact .inl rfl; exact .inr rfl)]
    show max (dM (wrapX bare x n)) 0 + 1 = _
    omega
theorem wrap_er (bare : Bool) {x : Rt} (hx : er x = x) (n : Nat) : er (wrapX bare x n) = wrapX bare x n := by
  induction n with
  | zero => exact hx
  | succ n ih => exact er_kd _ _ (by simp [ih])
theorem wrap_ct (bare : Bool) {s : List UInt8} (hs : contH s = false) (n : Nat) : contH (wrapT bare s n) = false := by
  cases n with
  | zero => exact hs
  | succ n => cases bare <;> rfl
theorem contH_app {l u : List UInt8} (hl : contH l = false) (hu : contH u = false) : contH (l ++ u) = false := by
  cases l with
  | nil => exact hu
  | cons a l => exact hl
theorem wrap_hd (bare : Bool) {s v : List UInt8} (hs : Stop s) (hv : contH v = false) (n : Nat) : (hdC (wrapT bare s n ++ 41 :: v) == [63]) = false := by
  cases n with
  | zero =>
    show (hdC (s ++ 41 :: v) == [63]) = false
    by_cases h0 : s = []
    · rw [h0, List.nil_append, (hd1 (y := 41) hv).1]; rfl
    · rw [hd_app h0 rfl]; exact hs.q3
  | succ n =>
    show (hdC ((preG bare ++ (wrapT bare s n ++ [41])) ++ 41 :: v) == [63]) = false
    rw [List.append_assoc, pre_hd bare (contH_app (contH_app (wrap_ct bare hs.ct n) rfl) rfl)]; rfl
theorem one_term {deep : Bool} {pat : List UInt8 → Res} (hg : deep = false → ∀ l, Gd 0 2 l (pat l)) {l u : List UInt8} {y : Rt} (hE : endB l = false) (ht : termP deep pat l = .ok y u) (hu : endB u = true) (hq : (hdC u == [124]) = false) (h0 : y.k ≠ 0) (h1 : y.k ≠ 1) (he : er y = y) : altsP deep pat (l.length + 1) [] l = .ok y u := by
  have ha := alts_all hg (.last (.cons hE ht (.nil u)) hu hq)
  have e0 : flK 0 [y] = [y] := flK_none (fun x hx => by obtain rfl : x = y := (by simpa using hx); exact h0) (by simp [he])
  have e1 : flK 1 [y] = [y] := flK_none (fun x hx => by obtain rfl : x = y := (by simpa using hx); exact h1) (by simp [he])
  rw [e0, show seqX [y] = y from rfl, e1] at ha
  exact ha
theorem one_err {deep : Bool} {pat : List UInt8 → Res} {l : List UInt8} {n : Int} (hE : endB l = false) (ht : termP deep pat l = .err n) : altsP deep pat (l.length + 1) [] l = .err n := by
  rw [altsP, termsP, hE, if_neg (by decide), ht]
theorem pre_end (bare : Bool) {l : List UInt8} (hl : contH l = false) : endB (preG bare ++ l) = false := by
  unfold endB
  rw [pre_hd bare hl]
  cases bare <;> rfl
theorem pre_term {deep : Bool} {pat : List UInt8 → Res} (bare : Bool) {l u : List UInt8} {y : Rt} (hl : contH l = false) (h : atomP deep pat (preG bare ++ l) = .ok y u) (hk : ¬ (y.k = 10 ∨ y.k = 11)) : termP deep pat (preG bare ++ l) = qntP y u := by
  unfold termP
  rw [pre_hd bare hl, if_neg (by decide), if_neg (by decide), h]
  simp only
  rw [if_neg hk]
theorem pre_terr {deep : Bool} {pat : List UInt8 → Res} (bare : Bool) {l : List UInt8} {n : Int} (hl : contH l = false) (h : atomP deep pat (preG bare ++ l) = .err n) : termP deep pat (preG bare ++ l) = .err n := by
  unfold termP
  rw [pre_hd bare hl, if_neg (by decide), if_neg (by decide), h]
theorem kG_k (bare : Bool) : kG bare = 5 ∨ kG bare = 6 := by cases bare; exact .inl rfl; exact .inr rfl
theorem end_stop {u : List UInt8} (hc : contH u = false) (h : u = [] ∨ (hdC u == [41]) = true) : Stop u ∧ endB u = true ∧ (hdC u == [124]) = false := by
  rcases h with rfl | h
  · exact ⟨stop_nil, rfl, rfl⟩
  · have h2 := beq_iff_eq.1 h
    exact ⟨⟨hc, by rw [h2]; rfl, by rw [h2]; rfl, by rw [h2]; rfl, by rw [h2]; rfl⟩, by unfold endB; rw [h]; simp, by rw [h2]; rfl⟩
theorem wrap_pat (bare : Bool) {s : List UInt8} {x : Rt} (h : patP 17 s = .ok x []) (hs : Stop s) (hx : er x = x) : ∀ (n f : Nat) (u : List UInt8), contH u = false → (u = [] ∨ (hdC u == [41]) = true) → patP (f + 1) (wrapT bare s n ++ u) = if dM (wrapX bare x n) ≤ f then .ok (wrapX bare x n) u else .err 8 := by
  intro n
  induction n with
  | zero =>
    intro f u hc hu
    obtain ⟨s1, s2, s3⟩ := end_stop hc hu
    have := pat_app (f := 16) s1 (.inr ⟨s2, s3⟩) h
    rw [List.nil_append] at this
    exact pat_dp 16 f _ _ _ this
  | succ n ih =>
    intro f u hc hu
    obtain ⟨s1, s2, s3⟩ := end_stop hc hu
    have e : wrapT bare s (n + 1) ++ u = preG bare ++ (wrapT bare s n ++ 41 :: u) := by
      show (preG bare ++ (wrapT bare s n ++ [41])) ++ u = _
      rw [List.append_assoc, List.append_assoc]; rfl
    have hc2 : contH (wrapT bare s n ++ 41 :: u) = false := contH_app (wrap_ct bare hs.ct n) rfl
    have hd := wrap_dM bare x (n + 1)
    have hd0 := wrap_dM bare x n
    rw [e]
    cases f with
    | zero =>
      rw [if_neg (by omega)]
      exact one_err (deep := true) (pat := patP 0) (pre_end bare hc2) (pre_terr bare hc2 (pre_deep bare _ hc2))
    | succ f =>
      have hp := ih f (41 :: u) rfl (.inr (by rw [(hd1 (y := 41) hc).1]; rfl))
      have ha := pre_atom (bare := bare) (c := dM (wrapX bare x n) ≤ f) (wrap_ct bare hs.ct n) (fun hb => wrap_hd bare hs hc n) hc hp
      have ht : termP false (patP (f + 1)) (preG bare ++ (wrapT bare s n ++ 41 :: u)) = if dM (wrapX bare x n) ≤ f then .ok (wrapX bare x (n + 1)) u else .err 8 := by
        by_cases hg : dM (wrapX bare x n) ≤ f
        · rw [if_pos hg] at ha ⊢
          rw [pre_term bare hc2 ha (show ¬ (kG bare = 10 ∨ kG bare = 11) by have := kG_k bare; omega)]
          exact qnt_app (x := kdX (kG bare) [wrapX bare x n]) (l := []) s1 rfl
        · rw [if_neg hg] at ha ⊢
          exact pre_terr bare hc2 ha
      by_cases hg : dM (wrapX bare x n) ≤ f
      · rw [if_pos hg] at ht
        rw [if_pos (by omega)]
        exact one_term (deep := false) (pat := patP (f + 1)) (fun _ => pat_gd f) (pre_end bare hc2) ht s2 s3 (by show kG bare ≠ 0; have := kG_k bare; omega) (by show kG bare ≠ 1; have := kG_k bare; omega) (wrap_er bare hx (n + 1))
      · rw [if_neg hg] at ht
        rw [if_neg (by omega)]
        exact one_err (deep := false) (pat := patP (f + 1)) (pre_end bare hc2) ht
theorem readP_stop {s : List UInt8} {x : Rt} (h : readP s = .ok x []) : patP 17 s = .ok x [] ∧ Stop s ∧ er x = x := by
  obtain ⟨h1, h2, xs, h3, h4, h5, h6⟩ := readP_alts h
  obtain ⟨_, _, _, h7, h8, _⟩ := readP_va h
  exact ⟨h7, alts_stop h3 h2, h8⟩
theorem readP_wrap (bare : Bool) {s : List UInt8} {x : Rt} (h : readP s = .ok x []) (n : Nat) (hz : (wrapT bare s n).length ≤ 256) : readP (wrapT bare s n) = if dM x + n ≤ 16 then .ok (wrapX bare x n) [] else .err 8 := by
  obtain ⟨h1, h2, h3⟩ := readP_stop h
  have hp := wrap_pat bare h1 h2 h3 n 16 [] rfl (.inl rfl)
  rw [List.append_nil, wrap_dM] at hp
  by_cases hg : dM x + n ≤ 16
  · rw [if_pos hg] at hp ⊢
    exact readP_to hz (wrap_ct bare h2.ct n) hp
  · rw [if_neg hg] at hp ⊢
    exact readP_er hz (wrap_ct bare h2.ct n) hp
/-- A group, and a quantifier behind it. -/
theorem readP_often (bare : Bool) {s q : List UInt8} {x : Rt} {mi ma : Int} {lz : Bool} (h : readP s = .ok x []) (hd : dM x < 16) (hq : ∀ y, qntP y q = .ok (repX mi ma lz y) []) (hq2 : ∀ y, qntP y (q ++ [42]) = .ok (repX mi ma lz y) [42]) (hc : contH q = false) (hc0 : q ≠ []) (hz : (preG bare ++ (s ++ 41 :: q)).length + 1 ≤ 256) :
    readP (preG bare ++ (s ++ 41 :: q)) = .ok (repX mi ma lz (kdX (kG bare) [x])) [] ∧ readP (preG bare ++ (s ++ 41 :: q) ++ [42]) = .err 10 := by
  obtain ⟨h1, h2, h3⟩ := readP_stop h
  have hgo : ∀ v : List UInt8, contH v = false → contH (s ++ 41 :: v) = false ∧ atomP false (patP 16) (preG bare ++ (s ++ 41 :: v)) = .ok (kdX (kG bare) [x]) v := by
    intro v hv
    have hp := wrap_pat bare h1 h2 h3 0 15 (41 :: v) rfl (.inr (by rw [(hd1 (y := 41) hv).1]; rfl))
    have ha := pre_atom (bare := bare) (c := dM (wrapX bare x 0) ≤ 15) h2.ct (fun hb => wrap_hd bare h2 hv 0) hv hp
    rw [if_pos (show dM (wrapX bare x 0) ≤ 15 by show dM x ≤ 15; omega)] at ha
    exact ⟨contH_app h2.ct rfl, ha⟩
  have hk := kG_k bare
  obtain ⟨c1, a1⟩ := hgo q hc
  obtain ⟨c2, a2⟩ := hgo (q ++ [42]) (by cases q with | nil => exact absurd rfl hc0 | cons a q => exact hc)
  have hxe : er (repX mi ma lz (kdX (kG bare) [x])) = repX mi ma lz (kdX (kG bare) [x]) := er_rep (er_kd _ _ (by simp [h3]))
  refine ⟨readP_to (by omega) (by cases bare <;> rfl) ?_, ?_⟩
  · refine one_term (deep := false) (pat := patP 16) (fun _ => pat_gd 15) (pre_end bare c1) ?_ rfl rfl (by show (7 : Int) ≠ 0; decide) (by show (7 : Int) ≠ 1; decide) hxe
    rw [pre_term bare c1 a1 (show ¬ (kG bare = 10 ∨ kG bare = 11) by omega), hq]
  · have e : preG bare ++ (s ++ 41 :: q) ++ [42] = preG bare ++ (s ++ 41 :: (q ++ [42])) := by rw [List.append_assoc, List.append_assoc]; rfl
    rw [e]
    refine readP_er (by rw [← e, List.length_append]; simpa using hz) (by cases bare <;> rfl) ?_
    show altsP false (patP 16) _ [] _ = _
    obtain ⟨m, hm⟩ : ∃ m, (preG bare ++ (s ++ 41 :: (q ++ [42]))).length = m + 1 := by
      cases bare
      · exact ⟨_, rfl⟩
      · exact ⟨_, rfl⟩
    have ht : termP false (patP 16) (preG bare ++ (s ++ 41 :: (q ++ [42]))) = .ok (repX mi ma lz (kdX (kG bare) [x])) [42] := by
      rw [pre_term bare c2 a2 (show ¬ (kG bare = 10 ∨ kG bare = 11) by omega), hq2]
    rw [altsP, termsP, pre_end bare c2, if_neg (by decide), ht]
    simp only
    rw [hm, termsP, if_neg (by decide), show termP false (patP 16) [42] = .err 10 from rfl]
end Go.Proofs.YtmacpmblodhcpaaGreatDoor
