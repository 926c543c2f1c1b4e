/- What burns does not hang on how much fuel there is. No condition. And 10 texts more. -/
import Derived.Test.YtcnliipkfccohabGreatS160
import Derived.Deep.QuietTactic
import Derived.BigQuiet
import Derived.Deep.Draws
import Derived.Test.YtcnliipkfccohabGreatS161
import Derived.Deep.RegionHeld3
import Derived.Deep.DrawnRows
import Derived.BigRegion
import Derived.Deep.RegionLaw
import Derived.Deep.AppendLies
namespace Go.Proofs.YtcnliipkfccohabGreat
end Go.Proofs.YtcnliipkfccohabGreat
namespace Go.Proofs.YtcnliipkfccohabGreat.SetM
end Go.Proofs.YtcnliipkfccohabGreat.SetM
namespace Go.Proofs.YtcnliipkfccohabGreat.SpanM
end Go.Proofs.YtcnliipkfccohabGreat.SpanM
section
namespace Go.Proofs.YtcnliipkfccohabGreat
set_option linter.unusedVariables false
def Ro.sh (a b : Nat) : Ro → Ro
  | .found i p f => .found i p (f - a + b)
  | .fail f => .fail (f - a + b)
  | .dry => .dry
theorem Ro.sh_fail {r : Ro} (a b : Nat) (h : ∀ f, r ≠ .fail f) : ∀ f, r.sh a b ≠ .fail f := by
  cases r with
  | found i p f => intro f2 h2; cases h2
  | fail f => exact absurd rfl (h f)
  | dry => intro f2 h2; cases h2
section
variable (offs : Nat → Int) (takes : Rt → Nat → Option Nat)
mutual
  theorem on_sh : ∀ {f : Nat} {ks : List Kt} {i : Nat} {p : List (Int × Int)} {r : Ro}, On offs takes f ks i p r → r ≠ .dry →
      ∀ {a b : Nat}, a ≤ r.left → On offs takes (f - a + b) ks i p (r.sh a b)
    | _, _, _, _, _, .nil f i p, hr, a, b, ha => .nil _ _ _
    | _, _, _, _, _, .ended f g bb ks i p r h, hr, a, b, ha => .ended _ _ _ _ _ _ _ (on_sh h hr ha)
    | _, _, _, _, _, .stuck f x g many bb ks i p h1 h2, hr, a, b, ha => .stuck _ _ _ _ _ _ _ _ h1 h2
    | _, _, _, _, _, .again f x g many bb ks i p r h1 h, hr, a, b, ha => .again _ _ _ _ _ _ _ _ _ h1 (onr_sh h hr ha)
    | _, _, _, _, _, .seq f x g ks i p r hk h, hr, a, b, ha => .seq _ _ _ _ _ _ _ hk (on_sh h hr ha)
    | _, _, _, _, _, .alt f x g ks i p r hk h, hr, a, b, ha => .alt _ _ _ _ _ _ _ hk (ona_sh h hr ha)
    | _, _, _, _, _, .rep f x g ks i p r hk h, hr, a, b, ha => .rep _ _ _ _ _ _ _ hk (onr_sh h hr ha)
    | _, _, _, _, _, .dry .., hr, a, b, ha => absurd rfl hr
    | _, _, _, _, _, .group f x y g ks i p r hk hy h, hr, a, b, ha => by
      have hl := on_left offs takes h
      rw [show f + 1 - a + b = (f - a + b) + 1 by omega]
      exact .group _ _ _ _ _ _ _ _ hk hy (on_sh h hr ha)
    | _, _, _, _, _, .bare f x y g ks i p r hk hy h, hr, a, b, ha => by
      have hl := on_left offs takes h
      rw [show f + 1 - a + b = (f - a + b) + 1 by omega]
      exact .bare _ _ _ _ _ _ _ _ hk hy (on_sh h hr ha)
    | _, _, _, _, _, .no f x g ks i p hk hn, hr, a, b, ha => by
      have ha : a ≤ f := ha
      rw [show f + 1 - a + b = (f - a + b) + 1 by omega]
      exact .no _ _ _ _ _ _ hk hn
    | _, _, _, _, _, .yes f x g ks i p n r hk hn h, hr, a, b, ha => by
      have hl := on_left offs takes h
      rw [show f + 1 - a + b = (f - a + b) + 1 by omega]
      exact .yes _ _ _ _ _ _ _ _ hk hn (on_sh h hr ha)
  theorem ona_sh : ∀ {f : Nat} {l : List Rt} {g : Nat} {ks : List Kt} {i : Nat} {p : List (Int × Int)} {r : Ro}, OnA offs takes f l g ks i p r → r ≠ .dry →
      ∀ {a b : Nat}, a ≤ r.left → OnA offs takes (f - a + b) l g ks i p (r.sh a b)
    | _, _, _, _, _, _, _, .nil f g ks i p, hr, a, b, ha => .nil _ _ _ _ _
    | _, _, _, _, _, _, _, .done f x l g ks i p r h h1, hr, a, b, ha => .done _ _ _ _ _ _ _ _ (on_sh h hr ha) (r.sh_fail a b h1)
    | _, _, _, _, _, _, _, .next f f' x l g ks i p r h h2, hr, a, b, ha =>
      .next _ (f' - a + b) _ _ _ _ _ _ _ (on_sh h (by intro h; cases h) (Nat.le_trans ha (ona_left offs takes h2))) (ona_sh h2 hr ha)
  theorem onr_sh : ∀ {f : Nat} {x : Rt} {g many : Nat} {ks : List Kt} {i : Nat} {p : List (Int × Int)} {r : Ro}, OnR offs takes f x g many ks i p r → r ≠ .dry →
      ∀ {a b : Nat}, a ≤ r.left → OnR offs takes (f - a + b) x g many ks i p (r.sh a b)
    | _, _, _, _, _, _, _, _, .must f x g many ks i p r h1 h, hr, a, b, ha => .must _ _ _ _ _ _ _ _ h1 (ont_sh h hr ha)
    | _, _, _, _, _, _, _, _, .full f x g many ks i p r h1 h2 h, hr, a, b, ha => .full _ _ _ _ _ _ _ _ h1 h2 (on_sh h hr ha)
    | _, _, _, _, _, _, _, _, .lazyD f x g many ks i p r h1 h2 hl h h3, hr, a, b, ha => .lazyD _ _ _ _ _ _ _ _ h1 h2 hl (on_sh h hr ha) (r.sh_fail a b h3)
    | _, _, _, _, _, _, _, _, .lazyN f f' x g many ks i p r h1 h2 hl h h3, hr, a, b, ha =>
      .lazyN _ (f' - a + b) _ _ _ _ _ _ _ h1 h2 hl (on_sh h (by intro h; cases h) (Nat.le_trans ha (ont_left offs takes h3))) (ont_sh h3 hr ha)
    | _, _, _, _, _, _, _, _, .moreD f x g many ks i p r h1 h2 hl h h3, hr, a, b, ha => .moreD _ _ _ _ _ _ _ _ h1 h2 hl (ont_sh h hr ha) (r.sh_fail a b h3)
    | _, _, _, _, _, _, _, _, .moreN f f' x g many ks i p r h1 h2 hl h h3, hr, a, b, ha =>
      .moreN _ (f' - a + b) _ _ _ _ _ _ _ h1 h2 hl (ont_sh h (by intro h; cases h) (Nat.le_trans ha (on_left offs takes h3))) (on_sh h3 hr ha)
  theorem ont_sh : ∀ {f : Nat} {x : Rt} {g many : Nat} {ks : List Kt} {i : Nat} {p : List (Int × Int)} {r : Ro}, OnT offs takes f x g many ks i p r → r ≠ .dry →
      ∀ {a b : Nat}, a ≤ r.left → OnT offs takes (f - a + b) x g many ks i p (r.sh a b)
    | _, _, _, _, _, _, _, _, .mk f x y g many ks i p r hy h, hr, a, b, ha => .mk _ _ _ _ _ _ _ _ _ hy (on_sh h hr ha)
end
theorem on_short {f f' : Nat} {ks : List Kt} {i : Nat} {p : List (Int × Int)} {r r' : Ro} (h : On offs takes f ks i p r) (hr : r ≠ .dry)
    (h2 : On offs takes f' ks i p r') (hf : f' + r.left < f) : r' = .dry := by
  apply Classical.byContradiction
  intro hn
  have h3 := on_sh offs takes h2 hn (a := 0) (b := f - f') (Nat.zero_le _)
  rw [show f' - 0 + (f - f') = f by omega] at h3
  have h4 := on_det offs takes h h3
  have h5 : r.left = r'.left + (f - f') := by
    rw [h4]
    cases r' with
    | found i q f => rfl
    | fail f => rfl
    | dry => exact absurd rfl hn
  omega
end
end Go.Proofs.YtcnliipkfccohabGreat
end
section
namespace Go.Proofs.YtcnliipkfccohabGreat
set_option linter.unusedVariables false
section
variable (offs : Nat → Int) (takes : Rt → Nat → Option Nat) (N i0 : Nat)
def Pt (i : Nat) (s : Int × Int) : Prop := s = (-1, -1) ∨ ∃ a b, i0 ≤ a ∧ a ≤ b ∧ b ≤ i ∧ s = (offs a, offs b)
theorem Pt.mono {i i' s} (h : Pt offs i0 i s) (hi : i ≤ i') : Pt offs i0 i' s := by
  cases h with
  | inl h => exact .inl h
  | inr h => obtain ⟨a, b, h1, h2, h3, h4⟩ := h; exact .inr ⟨a, b, h1, h2, by omega, h4⟩
structure Gp (i : Nat) (p : List (Int × Int)) (ks : List Kt) : Prop where
  lo : i0 ≤ i
  hi : i ≤ N
  en : ∀ g b, Kt.ended g b ∈ ks → i0 ≤ b ∧ b ≤ i
  pa : ∀ s ∈ p, Pt offs i0 i s
def Gq (i : Nat) (p : List (Int × Int)) (r : Ro) : Prop := ∀ j q f, r = .found j q f → i ≤ j ∧ j ≤ N ∧ q.length = p.length ∧ ∀ s ∈ q, Pt offs i0 j s
theorem Gp.tail {i p t ks} (h : Gp offs N i0 i p (t :: ks)) : Gp offs N i0 i p ks := ⟨h.lo, h.hi, fun g b hm => h.en g b (List.mem_cons_of_mem _ hm), h.pa⟩
theorem Gp.cons {i p x g ks} (h : Gp offs N i0 i p ks) : Gp offs N i0 i p (.hold x g :: ks) :=
  ⟨h.lo, h.hi, fun g' b hm => by cases hm with | tail _ hm => exact h.en g' b hm, h.pa⟩
theorem Gp.put {i p x g m b ks} (h : Gp offs N i0 i p ks) : Gp offs N i0 i p (.again x g m b :: ks) :=
  ⟨h.lo, h.hi, fun g' b' hm => by cases hm with | tail _ hm => exact h.en g' b' hm, h.pa⟩
theorem Gp.holds {i p ks} (h : Gp offs N i0 i p ks) : ∀ (l : List Rt) (g : Nat), Gp offs N i0 i p (holdsK l g ++ ks)
  | [], g => h
  | x :: l, g => Gp.cons offs N i0 (Gp.holds h l (g + gM x))
theorem Gp.shut {i p g b ks} (h : Gp offs N i0 i p (.ended g b :: ks)) : Gp offs N i0 i (p.set g (offs b, offs i)) ks := by
  have h2 := h.en g b List.mem_cons_self
  exact ⟨h.lo, h.hi, (h.tail offs N i0).en, fun s hs => by
    cases List.mem_or_eq_of_mem_set hs with
    | inl hs => exact h.pa s hs
    | inr hs => exact .inr ⟨b, i, h2.1, h2.2, Nat.le_refl _, hs⟩⟩
theorem Gp.open {i p x g g' ks} (h : Gp offs N i0 i p ks) : Gp offs N i0 i p (.hold x g :: .ended g' i :: ks) :=
  Gp.cons offs N i0 ⟨h.lo, h.hi, fun g2 b hm => by
    cases hm with
    | head => exact ⟨h.lo, Nat.le_refl _⟩
    | tail _ hm => exact h.en g2 b hm, h.pa⟩
theorem Gp.clear {i p g n ks} (h : Gp offs N i0 i p ks) : Gp offs N i0 i (clearP p g n) ks :=
  ⟨h.lo, h.hi, h.en, fun s hs => by
    unfold clearP at hs
    obtain ⟨j, hj, he⟩ := List.mem_mapIdx.1 hs
    split at he
    · exact .inl he.symm
    · rw [← he]; exact h.pa _ (List.getElem_mem hj)⟩
theorem Gp.on {i p n ks} (h : Gp offs N i0 i p ks) (hn : i + n ≤ N) : Gp offs N i0 (i + n) p ks :=
  ⟨Nat.le_trans h.lo (Nat.le_add_right _ _), hn, fun g b hm => ⟨(h.en g b hm).1, Nat.le_trans (h.en g b hm).2 (Nat.le_add_right _ _)⟩,
    fun s hs => (h.pa s hs).mono offs i0 (Nat.le_add_right _ _)⟩
theorem clearP_len (p : List (Int × Int)) (g n : Nat) : (clearP p g n).length = p.length := by simp [clearP]
mutual
  theorem on_in : ∀ {f : Nat} {ks : List Kt} {i : Nat} {p : List (Int × Int)} {r : Ro}, On offs takes f ks i p r → (∀ x i n, takes x i = some n → i ≤ N → i + n ≤ N) →
      Gp offs N i0 i p ks → Gq offs N i0 i p r
    | _, _, _, _, _, .nil f i p, hT, hg => by
      intro j q f' he; cases he
      exact ⟨Nat.le_refl _, hg.hi, rfl, hg.pa⟩
    | _, _, _, _, _, .ended f g b ks i p r h, hT, hg => by
      intro j q f' he
      have h2 := on_in h hT (hg.shut offs N i0) j q f' he
      rw [List.length_set] at h2
      exact h2
    | _, _, _, _, _, .stuck .., hT, hg => by intro j q f' he; cases he
    | _, _, _, _, _, .again f x g many b ks i p r h1 h, hT, hg => onr_in h hT (hg.tail offs N i0)
    | _, _, _, _, _, .seq f x g ks i p r hk h, hT, hg => on_in h hT ((hg.tail offs N i0).holds offs N i0 _ _)
    | _, _, _, _, _, .alt f x g ks i p r hk h, hT, hg => ona_in h hT (hg.tail offs N i0)
    | _, _, _, _, _, .rep f x g ks i p r hk h, hT, hg => onr_in h hT (hg.tail offs N i0)
    | _, _, _, _, _, .dry .., hT, hg => by intro j q f' he; cases he
    | _, _, _, _, _, .group f x y g ks i p r hk hy h, hT, hg => on_in h hT ((hg.tail offs N i0).open offs N i0)
    | _, _, _, _, _, .bare f x y g ks i p r hk hy h, hT, hg => on_in h hT ((hg.tail offs N i0).cons offs N i0)
    | _, _, _, _, _, .no .., hT, hg => by intro j q f' he; cases he
    | _, _, _, _, _, .yes f x g ks i p n r hk hn h, hT, hg => by
      intro j q f' he
      have h2 := on_in h hT ((hg.tail offs N i0).on offs N i0 (hT x i n hn hg.hi)) j q f' he
      exact ⟨by omega, h2.2⟩
  theorem ona_in : ∀ {f : Nat} {l : List Rt} {g : Nat} {ks : List Kt} {i : Nat} {p : List (Int × Int)} {r : Ro}, OnA offs takes f l g ks i p r →
      (∀ x i n, takes x i = some n → i ≤ N → i + n ≤ N) → Gp offs N i0 i p ks → Gq offs N i0 i p r
    | _, _, _, _, _, _, _, .nil .., hT, hg => by intro j q f' he; cases he
    | _, _, _, _, _, _, _, .done _ _ _ _ _ _ _ _ h _, hT, hg => on_in h hT (hg.cons offs N i0)
    | _, _, _, _, _, _, _, .next _ _ _ _ _ _ _ _ _ h h2, hT, hg => ona_in h2 hT hg
  theorem onr_in : ∀ {f : Nat} {x : Rt} {g many : Nat} {ks : List Kt} {i : Nat} {p : List (Int × Int)} {r : Ro}, OnR offs takes f x g many ks i p r →
      (∀ x i n, takes x i = some n → i ≤ N → i + n ≤ N) → Gp offs N i0 i p ks → Gq offs N i0 i p r
    | _, _, _, _, _, _, _, _, .must _ _ _ _ _ _ _ _ _ h, hT, hg => ont_in h hT hg
    | _, _, _, _, _, _, _, _, .full _ _ _ _ _ _ _ _ _ _ h, hT, hg => on_in h hT hg
    | _, _, _, _, _, _, _, _, .lazyD _ _ _ _ _ _ _ _ _ _ _ h _, hT, hg => on_in h hT hg
    | _, _, _, _, _, _, _, _, .lazyN _ _ _ _ _ _ _ _ _ _ _ _ h h3, hT, hg => ont_in h3 hT hg
    | _, _, _, _, _, _, _, _, .moreD _ _ _ _ _ _ _ _ _ _ _ h _, hT, hg => ont_in h hT hg
    | _, _, _, _, _, _, _, _, .moreN _ _ _ _ _ _ _ _ _ _ _ _ h h3, hT, hg => on_in h3 hT hg
  theorem ont_in : ∀ {f : Nat} {x : Rt} {g many : Nat} {ks : List Kt} {i : Nat} {p : List (Int × Int)} {r : Ro}, OnT offs takes f x g many ks i p r →
      (∀ x i n, takes x i = some n → i ≤ N → i + n ≤ N) → Gp offs N i0 i p ks → Gq offs N i0 i p r
    | _, _, _, _, _, _, _, _, .mk f x y g many ks i p r hy h, hT, hg => by
      intro j q f' he
      have h2 := on_in h hT (Gp.cons offs N i0 (Gp.put offs N i0 (hg.clear offs N i0))) j q f' he
      rw [clearP_len] at h2
      exact h2
end
end
end Go.Proofs.YtcnliipkfccohabGreat
end
section
namespace Go.Proofs.YtcnliipkfccohabGreat
set_option linter.unusedVariables false
def Kt.up : Kt → Kt
  | .hold x g => .hold x (g + 1)
  | .ended g b => .ended (g + 1) b
  | .again x g m b => .again x (g + 1) m b
def Ro.up (s : Int × Int) : Ro → Ro
  | .found i p f => .found i (s :: p) f
  | .fail f => .fail f
  | .dry => .dry
theorem Ro.up_fail {r : Ro} (s : Int × Int) (h : ∀ f, r ≠ .fail f) : ∀ f, r.up s ≠ .fail f := by
  cases r with
  | found i p f => intro f2 h2; cases h2
  | fail f => exact absurd rfl (h f)
  | dry => intro f2 h2; cases h2
theorem holdsK_up : ∀ (l : List Rt) (g : Nat), (holdsK l g).map Kt.up = holdsK l (g + 1)
  | [], _ => rfl
  | x :: l, g => by rw [holdsK, holdsK, List.map_cons, holdsK_up l (g + gM x), show g + gM x + 1 = g + 1 + gM x by omega]; rfl
theorem clearP_up (s : Int × Int) (p : List (Int × Int)) (g n : Nat) : clearP (s :: p) (g + 1) n = s :: clearP p g n := by
  unfold clearP
  rw [List.mapIdx_cons, if_neg (by omega)]
  congr 1
  apply List.ext_getElem (by simp)
  intro j h1 h2
  rw [List.getElem_mapIdx, List.getElem_mapIdx]
  by_cases h : g ≤ j ∧ j < g + n
  · rw [if_pos h, if_pos (by omega)]
  · rw [if_neg h, if_neg (by omega)]
section
variable (offs : Nat → Int) (takes : Rt → Nat → Option Nat)
mutual
  theorem on_up : ∀ {f : Nat} {ks : List Kt} {i : Nat} {p : List (Int × Int)} {r : Ro}, On offs takes f ks i p r → ∀ (s : Int × Int), On offs takes f (ks.map Kt.up) i (s :: p) (r.up s)
    | _, _, _, _, _, .nil f i p, s => .nil _ _ _
    | _, _, _, _, _, .ended f g b ks i p r h, s => .ended _ _ _ _ _ _ _ (on_up h s)
    | _, _, _, _, _, .stuck f x g many b ks i p h1 h2, s => .stuck _ _ _ _ _ _ _ _ h1 h2
    | _, _, _, _, _, .again f x g many b ks i p r h1 h, s => .again _ _ _ _ _ _ _ _ _ h1 (onr_up h s)
    | _, _, _, _, _, .seq f x g ks i p r hk h, s => by
      have h2 := on_up h s
      rw [List.map_append, holdsK_up] at h2
      exact .seq _ _ _ _ _ _ _ hk h2
    | _, _, _, _, _, .alt f x g ks i p r hk h, s => .alt _ _ _ _ _ _ _ hk (ona_up h s)
    | _, _, _, _, _, .rep f x g ks i p r hk h, s => .rep _ _ _ _ _ _ _ hk (onr_up h s)
    | _, _, _, _, _, .dry x g ks i p hk, s => .dry _ _ _ _ _ hk
    | _, _, _, _, _, .group f x y g ks i p r hk hy h, s => .group _ _ _ _ _ _ _ _ hk hy (on_up h s)
    | _, _, _, _, _, .bare f x y g ks i p r hk hy h, s => .bare _ _ _ _ _ _ _ _ hk hy (on_up h s)
    | _, _, _, _, _, .no f x g ks i p hk hn, s => .no _ _ _ _ _ _ hk hn
    | _, _, _, _, _, .yes f x g ks i p n r hk hn h, s => .yes _ _ _ _ _ _ _ _ hk hn (on_up h s)
  theorem ona_up : ∀ {f : Nat} {l : List Rt} {g : Nat} {ks : List Kt} {i : Nat} {p : List (Int × Int)} {r : Ro}, OnA offs takes f l g ks i p r → ∀ (s : Int × Int),
      OnA offs takes f l (g + 1) (ks.map Kt.up) i (s :: p) (r.up s)
    | _, _, _, _, _, _, _, .nil f g ks i p, s => .nil _ _ _ _ _
    | _, _, _, _, _, _, _, .done f x l g ks i p r h h1, s => .done _ _ _ _ _ _ _ _ (on_up h s) (r.up_fail s h1)
    | _, _, _, _, _, _, _, .next f f' x l g ks i p r h h2, s => by
      have h3 := ona_up h2 s
      rw [show g + gM x + 1 = g + 1 + gM x by omega] at h3
      exact .next _ _ _ _ _ _ _ _ _ (on_up h s) h3
  theorem onr_up : ∀ {f : Nat} {x : Rt} {g many : Nat} {ks : List Kt} {i : Nat} {p : List (Int × Int)} {r : Ro}, OnR offs takes f x g many ks i p r → ∀ (s : Int × Int),
      OnR offs takes f x (g + 1) many (ks.map Kt.up) i (s :: p) (r.up s)
    | _, _, _, _, _, _, _, _, .must f x g many ks i p r h1 h, s => .must _ _ _ _ _ _ _ _ h1 (ont_up h s)
    | _, _, _, _, _, _, _, _, .full f x g many ks i p r h1 h2 h, s => .full _ _ _ _ _ _ _ _ h1 h2 (on_up h s)
    | _, _, _, _, _, _, _, _, .lazyD f x g many ks i p r h1 h2 hl h h3, s => .lazyD _ _ _ _ _ _ _ _ h1 h2 hl (on_up h s) (r.up_fail s h3)
    | _, _, _, _, _, _, _, _, .lazyN f f' x g many ks i p r h1 h2 hl h h3, s => .lazyN _ _ _ _ _ _ _ _ _ h1 h2 hl (on_up h s) (ont_up h3 s)
    | _, _, _, _, _, _, _, _, .moreD f x g many ks i p r h1 h2 hl h h3, s => .moreD _ _ _ _ _ _ _ _ h1 h2 hl (ont_up h s) (r.up_fail s h3)
    | _, _, _, _, _, _, _, _, .moreN f f' x g many ks i p r h1 h2 hl h h3, s => .moreN _ _ _ _ _ _ _ _ _ h1 h2 hl (ont_up h s) (on_up h3 s)
  theorem ont_up : ∀ {f : Nat} {x : Rt} {g many : Nat} {ks : List Kt} {i : Nat} {p : List (Int × Int)} {r : Ro}, OnT offs takes f x g many ks i p r → ∀ (s : Int × Int),
      OnT offs takes f x (g + 1) many (ks.map Kt.up) i (s :: p) (r.up s)
    | _, _, _, _, _, _, _, _, .mk f x y g many ks i p r hy h, s => by
      have h2 := on_up h s
      rw [← clearP_up] at h2
      exact .mk _ _ _ _ _ _ _ _ _ hy h2
end
def Ro.en (offs : Nat → Int) (g b : Nat) : Ro → Ro
  | .found i p f => .found i (p.set g (offs b, offs i)) f
  | .fail f => .fail f
  | .dry => .dry
theorem Ro.en_fail {r : Ro} (g b : Nat) (h : ∀ f, r ≠ .fail f) : ∀ f, r.en offs g b ≠ .fail f := by
  cases r with
  | found i p f => intro f2 h2; cases h2
  | fail f => exact absurd rfl (h f)
  | dry => intro f2 h2; cases h2
mutual
  theorem on_en : ∀ {f : Nat} {ks : List Kt} {i : Nat} {p : List (Int × Int)} {r : Ro}, On offs takes f ks i p r → ∀ (e c : Nat), On offs takes f (ks ++ [.ended e c]) i p (r.en offs e c)
    | _, _, _, _, _, .nil f i p, e, c => .ended _ _ _ _ _ _ _ (.nil _ _ _)
    | _, _, _, _, _, .ended f g b ks i p r h, e, c => .ended _ _ _ _ _ _ _ (on_en h e c)
    | _, _, _, _, _, .stuck f x g many b ks i p h1 h2, e, c => .stuck _ _ _ _ _ _ _ _ h1 h2
    | _, _, _, _, _, .again f x g many b ks i p r h1 h, e, c => .again _ _ _ _ _ _ _ _ _ h1 (onr_en h e c)
    | _, _, _, _, _, .seq f x g ks i p r hk h, e, c => by
      have h2 := on_en h e c
      rw [List.append_assoc] at h2
      exact .seq _ _ _ _ _ _ _ hk h2
    | _, _, _, _, _, .alt f x g ks i p r hk h, e, c => .alt _ _ _ _ _ _ _ hk (ona_en h e c)
    | _, _, _, _, _, .rep f x g ks i p r hk h, e, c => .rep _ _ _ _ _ _ _ hk (onr_en h e c)
    | _, _, _, _, _, .dry x g ks i p hk, e, c => .dry _ _ _ _ _ hk
    | _, _, _, _, _, .group f x y g ks i p r hk hy h, e, c => .group _ _ _ _ _ _ _ _ hk hy (on_en h e c)
    | _, _, _, _, _, .bare f x y g ks i p r hk hy h, e, c => .bare _ _ _ _ _ _ _ _ hk hy (on_en h e c)
    | _, _, _, _, _, .no f x g ks i p hk hn, e, c => .no _ _ _ _ _ _ hk hn
    | _, _, _, _, _, .yes f x g ks i p n r hk hn h, e, c => .yes _ _ _ _ _ _ _ _ hk hn (on_en h e c)
  theorem ona_en : ∀ {f : Nat} {l : List Rt} {g : Nat} {ks : List Kt} {i : Nat} {p : List (Int × Int)} {r : Ro}, OnA offs takes f l g ks i p r → ∀ (e c : Nat),
      OnA offs takes f l g (ks ++ [.ended e c]) i p (r.en offs e c)
    | _, _, _, _, _, _, _, .nil f g ks i p, e, c => .nil _ _ _ _ _
    | _, _, _, _, _, _, _, .done f x l g ks i p r h h1, e, c => .done _ _ _ _ _ _ _ _ (on_en h e c) (r.en_fail offs e c h1)
    | _, _, _, _, _, _, _, .next f f' x l g ks i p r h h2, e, c => .next _ _ _ _ _ _ _ _ _ (on_en h e c) (ona_en h2 e c)
  theorem onr_en : ∀ {f : Nat} {x : Rt} {g many : Nat} {ks : List Kt} {i : Nat} {p : List (Int × Int)} {r : Ro}, OnR offs takes f x g many ks i p r → ∀ (e c : Nat),
      OnR offs takes f x g many (ks ++ [.ended e c]) i p (r.en offs e c)
    | _, _, _, _, _, _, _, _, .must f x g many ks i p r h1 h, e, c => .must _ _ _ _ _ _ _ _ h1 (ont_en h e c)
    | _, _, _, _, _, _, _, _, .full f x g many ks i p r h1 h2 h, e, c => .full _ _ _ _ _ _ _ _ h1 h2 (on_en h e c)
    | _, _, _, _, _, _, _, _, .lazyD f x g many ks i p r h1 h2 hl h h3, e, c => .lazyD _ _ _ _ _ _ _ _ h1 h2 hl (on_en h e c) (r.en_fail offs e c h3)
    | _, _, _, _, _, _, _, _, .lazyN f f' x g many ks i p r h1 h2 hl h h3, e, c => .lazyN _ _ _ _ _ _ _ _ _ h1 h2 hl (on_en h e c) (ont_en h3 e c)
    | _, _, _, _, _, _, _, _, .moreD f x g many ks i p r h1 h2 hl h h3, e, c => .moreD _ _ _ _ _ _ _ _ h1 h2 hl (ont_en h e c) (r.en_fail offs e c h3)
    | _, _, _, _, _, _, _, _, .moreN f f' x g many ks i p r h1 h2 hl h h3, e, c => .moreN _ _ _ _ _ _ _ _ _ h1 h2 hl (ont_en h e c) (on_en h3 e c)
  theorem ont_en : ∀ {f : Nat} {x : Rt} {g many : Nat} {ks : List Kt} {i : Nat} {p : List (Int × Int)} {r : Ro}, OnT offs takes f x g many ks i p r → ∀ (e c : Nat),
      OnT offs takes f x g many (ks ++ [.ended e c]) i p (r.en offs e c)
    | _, _, _, _, _, _, _, _, .mk f x y g many ks i p r hy h, e, c => .mk _ _ _ _ _ _ _ _ _ hy (on_en h e c)
end
theorem on_wrap {f i : Nat} {y x : Rt} {p : List (Int × Int)} {s : Int × Int} {r : Ro} (hk : x.k = 5) (hy : x.kids = [y]) (h : On offs takes f [.hold y 0] i p r) :
    On offs takes (f + 1) [.hold x 0] i (s :: p) ((r.up s).en offs 0 i) :=
  .group _ _ _ _ _ _ _ _ hk hy (on_en offs takes (on_up offs takes h s) 0 i)
end
end Go.Proofs.YtcnliipkfccohabGreat
end
section
namespace Go.Proofs.YtcnliipkfccohabGreat
open Go.ChangeShapes Go.WideShapes Go.ChangeAt Go.RowKit
theorem info_int : (Tryz.prog.info? 3).map (fun i => (i.zero, i.size, i.bytes)) = some (some (.int .i64 0), 1, 8) := by kernel_rfl
def plGo : List UInt8 → Nat → List Nat
  | [], i => [i]
  | c :: r, i => if i = 0 ∨ contB c = false then i :: plGo r (i + 1) else plGo r (i + 1)
theorem plGo_on (l : List UInt8) (k : Nat) (h : k < l.length) (hc : k = 0 ∨ contB l[k] = false) : plGo (l.drop k) k = k :: plGo (l.drop (k + 1)) (k + 1) := by
  rw [List.drop_eq_getElem_cons h, plGo, if_pos hc]
theorem plGo_off (l : List UInt8) (k : Nat) (h : k < l.length) (h0 : ¬ k = 0) (hc : contB l[k] = true) : plGo (l.drop k) k = plGo (l.drop (k + 1)) (k + 1) := by
  rw [List.drop_eq_getElem_cons h, plGo, if_neg (by rw [hc]; simp [h0])]
theorem plGo_end (l : List UInt8) : plGo (l.drop l.length) l.length = [l.length] := by
  rw [List.drop_of_length_le (Nat.le_refl _)]; rfl
def natC (l : List Nat) : List Value := l.map fun (i : Nat) => Value.int .i64 (i : Int)
def PlInv (s : ByteArray) (w : World) (v i : Value) (wr : World) : Prop :=
  ∃ (k : Nat) (ps : List Nat), i = .int .i64 k ∧ k ≤ s.size ∧ ps.length ≤ k ∧ Hid (plGo s.data.toList 0 = ps ++ plGo (s.data.toList.drop k) k) ∧ wr.ownsRow w.heap.size 3 1 v ps.length (natC ps) ∧ Below w.heap.size w wr
def PlPost (s : ByteArray) (w : World) (e : Ending) (w' : World) : Prop := ∃ (v : Value) (ps : List Nat), e = .returned v ∧ Below w.heap.size w w' ∧ w'.ownsRow w.heap.size 3 1 v ps.length (natC ps) ∧ Hid (plGo s.data.toList 0 = ps)
set_option maxRecDepth 100000 in
set_option maxHeartbeats 4000000 in
theorem places_any (s : ByteArray) (w : World) (hs : s.size ≤ 100000) :
    Calls Tryz.prog 56 #[.string s] w (PlPost s w) := by
  obtain ⟨i0, hi0, hz0', hz1, hz2⟩ := info_parts info_int
  go_enter Tryz.func56, Tryz.ntmps56
  go_wp2
  go_loopw [3, 7] (fun v i wr => PlInv s w v i wr) (fun _ i _ => s.size - (intOf i).toNat)
  case atStart => exact ⟨0, [], rfl, Nat.zero_le _, Nat.le_refl _, hide rfl, ⟨rfl, .inl ⟨rfl, rfl⟩⟩, bl_refl w⟩
  case round =>
    obtain ⟨k, ps, rfl, hk, hpl, HP, hv, hbl⟩ := hrel
    have hbw : w.heap.size ≤ wr.heap.size := hbl.size
    by_cases hlt : k < s.size
    · have hkl : k < s.data.toList.length := by simpa using hlt
      have hsk : s.data.toList[k] = s[k] := rfl
      have FINON : (k = 0 ∨ contB s[k] = false) → ∀ (v' : Value) (W : World), W.ownsRow w.heap.size 3 1 v' (ps.length + 1) (natC ps ++ [.int .i64 (k : Int)]) → Below w.heap.size w W → PlInv s w v' (.int .i64 ((k : Int) + 1)) W := fun hc v' W h1 h2 =>
        ⟨k + 1, ps ++ [k], by go_num, by omega, by simp; omega, hide (by rw [HP.out, plGo_on _ k hkl hc]; simp), by
          have e : natC (ps ++ [k]) = natC ps ++ [.int .i64 (k : Int)] := by simp [natC]
          rw [e, List.length_append]; exact h1, h2⟩
      by_cases hk0 : k = 0
      · have FO := hide (FINON (.inl hk0))
        subst hk0
        clear FINON HP
        go_wp2_with (first
          | (at_builtin; (refine wpList_push wr rfl _ _ 69 rfl w.heap.size 3 i0 (.int .i64 0) 1 8 Tryz.underlying69 hi0 hz0' hz1 hz2 rfl (by decide) u3 ps.length (natC ps) rfl hv 1 #[.int .i64 0] rfl rfl (by simp [Value.oneCell']) (by omega) (by decide) hbw ?_); intro v' w4 hv4 hg4 hat)
          | fail)
        have hbl4 : Below w.heap.size w w4 := bl_own hbl hv hg4 (Nat.le_refl _)
        refine ⟨?_, by first | (simp [intOf]; done) | (simp [intOf]; omega)⟩
        exact FO.out _ _ hv4 hbl4
      · have hkz : ((k : Int) == 0) = false := by simp; omega
        cases hc : contB s[k]
        · have FO := hide (FINON (.inr hc))
          have HC := hide hc
          clear FINON HP hc hsk
          go_wp2_with (first
            | (go_at_call 10; refine (contc_any s[k] _ false _ rfl HC.out).mono ?_; rintro e w1 ⟨rfl, rfl⟩)
            | (at_builtin; (refine wpList_push wr rfl _ _ 69 rfl w.heap.size 3 i0 (.int .i64 0) 1 8 Tryz.underlying69 hi0 hz0' hz1 hz2 rfl (by decide) u3 ps.length (natC ps) rfl hv 1 #[.int .i64 (k : Int)] rfl rfl (by simp [Value.oneCell']) (by omega) (by decide) hbw ?_); intro v' w4 hv4 hg4 hat)
            | fail)
          have hbl4 : Below w.heap.size w w4 := bl_own hbl hv hg4 (Nat.le_refl _)
          refine ⟨?_, by first | (simp [intOf]; done) | (simp [intOf]; omega)⟩
          exact FO.out _ _ hv4 hbl4
        · have HC := hide hc
          have FO : PlInv s w u3 (.int .i64 ((k : Int) + 1)) wr := ⟨k + 1, ps, by go_num, by omega, by omega, hide (by rw [HP.out, plGo_off _ k hkl hk0 hc]), hv, hbl⟩
          have HF := hide FO
          clear FINON HP hc FO hsk
          go_wp2_with (go_at_call 10; refine (contc_any s[k] _ true _ rfl HC.out).mono ?_; rintro e w1 ⟨rfl, rfl⟩)
          refine ⟨?_, by first | (simp [intOf]; done) | (simp [intOf]; omega)⟩
          exact HF.out
    · have hks : k = s.size := by omega
      have hend : plGo s.data.toList 0 = ps ++ [s.size] := by
        have h1 := HP.out
        rw [hks, show plGo (s.data.toList.drop s.size) s.size = [s.size] from by have := plGo_end s.data.toList; rw [len_data] at this; exact this] at h1
        exact h1
      have HE := hide hend
      clear HP hend
      go_wp2_with (first
        | (at_builtin; (refine wpList_push wr rfl _ _ 69 rfl w.heap.size 3 i0 (.int .i64 0) 1 8 Tryz.underlying69 hi0 hz0' hz1 hz2 rfl (by decide) u3 ps.length (natC ps) rfl hv 1 #[.int .i64 (s.size : Int)] rfl rfl (by simp [Value.oneCell']) (by omega) (by decide) hbw ?_); intro v' w4 hv4 hg4 hat)
        | fail)
      have hbl4 : Below w.heap.size w w4 := bl_own hbl hv hg4 (Nat.le_refl _)
      have hv5 : w4.ownsRow w.heap.size 3 1 v' (ps ++ [s.size]).length (natC (ps ++ [s.size])) := by
        have e : natC (ps ++ [s.size]) = natC ps ++ [.int .i64 (s.size : Int)] := by simp [natC]
        rw [e, List.length_append]; exact hv4
      clear hv4
      go_ret
      exact ⟨_, ps ++ [s.size], rfl, hbl4, hv5, HE⟩
def wdB (l : List UInt8) : Bool := match l with
  | [c] => decide (48 ≤ c.toNat ∧ c.toNat ≤ 57 ∨ 65 ≤ c.toNat ∧ c.toNat ≤ 90 ∨ 97 ≤ c.toNat ∧ c.toNat ≤ 122 ∨ c.toNat = 95)
  | _ => false
set_option maxRecDepth 100000 in
set_option maxHeartbeats 2000000 in
theorem word_any (z : ByteArray) (r : Bool) (w : World) (hr : wdB z.data.toList = r) :
    Calls Tryz.prog 87 #[.string z] w fun e w' => e = .returned (.bool r) ∧ Below w.heap.size w w' := by
  by_cases h1 : z.size = 1
  · have hi : ((z.size : Int) == 1) = true := by simp; omega
    have h0 : 0 < z.size := by omega
    have hl : z.data.toList = [z[0]] := by
      have h2 : z.data.toList.length = 1 := by rw [len_data]; exact h1
      obtain ⟨c, hc⟩ := List.length_eq_one_iff.1 h2
      have h3 : z[0] = z.data.toList[0]'(by omega) := rfl
      rw [h3]
      simp only [hc, List.getElem_cons_zero]
    rw [hl] at hr
    have HW : Hid (r = decide (48 ≤ z[0].toNat ∧ z[0].toNat ≤ 57 ∨ 65 ≤ z[0].toNat ∧ z[0].toNat ≤ 90 ∨ 97 ≤ z[0].toNat ∧ z[0].toNat ≤ 122 ∨ z[0].toNat = 95)) := hide hr.symm
    have hc : (z[0].toNat : Int) < 256 := by have := z[0].toNat_lt; omega
    clear hr hl h1
    generalize hg : z[0].toNat = n at *
    have HG := hide hg
    clear hg
    go_enter Tryz.func87, Tryz.ntmps87
    go_wp2
    all_goals
      go_ret
      have hg := HG.out
      exact ⟨ret_bool (by rw [HW.out, Bool.eq_iff_iff]; first | (simp; done) | (simp; omega) | (simp at *; omega)), bl_refl _⟩
  · have hi : ((z.size : Int) == 1) = false := by simp; omega
    have hrf : r = false := by
      rw [← hr]
      unfold wdB
      split
      · rename_i c hc
        have := len_data z
        rw [hc] at this
        simp at this; omega
      · rfl
    subst hrf
    clear hr h1
    go_enter Tryz.func87, Tryz.ntmps87
    go_wp2
    go_ret
    exact ⟨rfl, bl_refl _⟩
end Go.Proofs.YtcnliipkfccohabGreat
end
section
namespace Go.Proofs.YtcnliipkfccohabGreat
set_option linter.unusedVariables false
open SetM
mutual
  /-- How many choices and kept parts a part may make ahead of the next that burns. -/
  def potM : Rt → Nat
    | .mk k _ _ _ _ _ _ _ _ l => if k = 0 then potL l else if k = 1 then l.length + potL l else if k = 7 then 1 + gL l else 0
  def potL : List Rt → Nat
    | [] => 0
    | t :: l => potM t + potL l
end
theorem potM_eq (t : Rt) : potM t = if t.k = 0 then potL t.kids else if t.k = 1 then t.kids.length + potL t.kids else if t.k = 7 then 1 + gL t.kids else 0 := by cases t; rw [potM]; rfl
mutual
  theorem potM_le : ∀ t, potM t ≤ 3 * pM t
    | .mk k _ _ _ _ _ _ _ _ l => by
      rw [potM, pM]
      have h1 := potL_le l
      have h2 := len_pL l
      have h3 := gL_le l
      split
      · omega
      · split
        · omega
        · split <;> omega
  theorem potL_le : ∀ l, potL l + l.length ≤ 3 * pL l
    | [] => by simp [potL]
    | t :: l => by
      rw [potL, pL, List.length_cons]
      have h1 := potM_le1 t
      have h2 := potL_le l
      omega
  theorem potM_le1 : ∀ t, potM t + 1 ≤ 3 * pM t
    | .mk k _ _ _ _ _ _ _ _ l => by
      rw [potM, pM]
      have h1 := potL_le l
      have h2 := len_pL l
      have h3 := gL_le l
      split
      · omega
      · split
        · omega
        · split <;> omega
end
def burn (x : Rt) : Prop := x.k ≠ 0 ∧ x.k ≠ 1 ∧ x.k ≠ 7
instance (x : Rt) : Decidable (burn x) := by unfold burn; infer_instance
def kgo (x : Rt) (g : Nat) : Nat := if x.k = 5 then g + 1 else g
structure XOk (np : Nat) (x : Rt) (g : Nat) : Prop where
  ok : okM x = true
  gr : g + gM x ≤ np
  pt : pM x ≤ 512
  sz : sM x ≤ 1000
structure LOk (np : Nat) (l : List Rt) (g : Nat) : Prop where
  ok : okL l = true
  gr : g + gL l ≤ np
  pt : pL l ≤ 512
  sz : sL l ≤ 1000
theorem okM_fields {x : Rt} (h : okM x = true) : mfB x.k x.ch x.nt x.rows x.mi x.ma x.lz = true ∧ mkB x.k x.kids = true ∧ okL x.kids = true := by
  rw [okM_eq] at h; simp at h; exact ⟨h.1.1, h.1.2, h.2⟩
theorem XOk.kind {np : Nat} {x : Rt} {g : Nat} (h : XOk np x g) : 0 ≤ x.k ∧ x.k ≤ 11 := by
  have h2 := (okM_fields h.ok).2.1
  unfold mkB at h2
  split at h2
  · omega
  · split at h2
    · omega
    · split at h2
      · omega
      · split at h2
        · omega
        · split at h2
          · omega
          · cases h2
theorem XOk.one {np : Nat} {x : Rt} {g : Nat} (h : XOk np x g) (hk : x.k = 5 ∨ x.k = 6 ∨ x.k = 7) : ∃ y, x.kids = [y] ∧ XOk np y (kgo x g) := by
  have h1 := okM_fields h.ok
  have h2 := h1.2.1
  have hl : x.kids.length = 1 := by
    unfold mkB at h2
    rw [if_neg (by omega), if_neg (by omega)] at h2
    split at h2
    · simpa using h2
    · rw [if_pos (by omega)] at h2
      simp at h2
      exact h2.1
  obtain ⟨y, hy⟩ := List.length_eq_one_iff.1 hl
  have h3 := h1.2.2
  have h4 := h.gr
  have h5 := h.pt
  have h6 := h.sz
  rw [gM_eq] at h4
  rw [pM_eq] at h5
  rw [sM_eq] at h6
  rw [hy] at h3 h4 h5 h6
  simp [okL, gL, pL, sL] at h3 h4 h5 h6
  refine ⟨y, hy, h3, ?_, by omega, by omega⟩
  unfold kgo
  split
  · rename_i e; rw [if_pos e] at h4; omega
  · rename_i e; rw [if_neg e] at h4; omega
theorem XOk.kids {np : Nat} {x : Rt} {g : Nat} (h : XOk np x g) (hk : x.k ≠ 5) : LOk np x.kids g := by
  have h1 := okM_fields h.ok
  have h4 := h.gr
  have h5 := h.pt
  rw [gM_eq, if_neg hk] at h4
  rw [pM_eq] at h5
  have h6 := h.sz
  rw [sM_eq] at h6
  exact ⟨h1.2.2, by omega, by omega, by omega⟩
theorem XOk.rep {np : Nat} {x : Rt} {g : Nat} (h : XOk np x g) (hk : x.k = 7) : 0 ≤ x.mi ∧ x.mi ≤ 255 ∧ (x.ma = -1 ∨ (x.mi ≤ x.ma ∧ x.ma ≤ 255)) ∧ ∃ y, x.kids = [y] ∧ XOk np y g ∧ burn y ∧ gM y = gM x := by
  have h1 := okM_fields h.ok
  have h2 := h1.1
  unfold mfB at h2
  rw [if_neg (by omega), if_neg (by omega), if_pos hk] at h2
  simp [rngB] at h2
  obtain ⟨y, hy, hyo⟩ := h.one (.inr (.inr hk))
  unfold kgo at hyo
  rw [if_neg (by omega)] at hyo
  refine ⟨h2.1.1.1, h2.1.1.2, h2.1.2, y, hy, hyo, ?_, ?_⟩
  · have h3 := h1.2.1
    unfold mkB at h3
    rw [if_neg (by omega), if_neg (by omega), if_neg (by omega), if_pos hk, hy] at h3
    simp [atomB] at h3
    unfold burn
    omega
  · rw [gM_eq x, if_neg (by omega), hy]
    simp [gL]
theorem XOk.alt {np : Nat} {x : Rt} {g : Nat} (h : XOk np x g) (hk : x.k = 1) : 2 ≤ x.kids.length := by
  have h3 := (okM_fields h.ok).2.1
  unfold mkB at h3
  rw [if_neg (by omega), if_pos hk] at h3
  simp at h3
  exact h3.1
theorem LOk.head {np : Nat} {x : Rt} {l : List Rt} {g : Nat} (h : LOk np (x :: l) g) : XOk np x g ∧ LOk np l (g + gM x) := by
  obtain ⟨h1, h2, h3, h4⟩ := h
  simp [okL, gL, pL, sL] at h1 h2 h3 h4
  exact ⟨⟨h1.1, by omega, by omega, by omega⟩, h1.2, by omega, by omega, by omega⟩
def TkOk (np i : Nat) : Tk → Prop
  | .enter x g => XOk np x g
  | .kids l g => LOk np l g
  | .others l g => LOk np l g ∧ l ≠ []
  | .again x g n => XOk np x g ∧ x.k = 7 ∧ n ≤ x.mi.toNat + i ∧ (x.ma ≠ -1 → ((n : Nat) : Int) ≤ x.ma)
  | .begin x g n => XOk np x g ∧ x.k = 7 ∧ n ≤ x.mi.toNat + i ∧ (x.ma ≠ -1 → ((n : Nat) : Int) < x.ma)
  | .ended x g n b => XOk np x g ∧ x.k = 7 ∧ b ≤ i ∧ n ≤ x.mi.toNat + b ∧ (x.ma ≠ -1 → ((n : Nat) : Int) < x.ma)
  | .shut g b => g < np ∧ b ≤ i
theorem TkOk.up {np i j : Nat} {t : Tk} (h : TkOk np i t) (hj : i ≤ j) : TkOk np j t := by
  cases t with
  | enter x g => exact h
  | kids l g => exact h
  | others l g => exact h
  | again x g n => exact ⟨h.1, h.2.1, by have := h.2.2.1; omega, h.2.2.2⟩
  | begin x g n => exact ⟨h.1, h.2.1, by have := h.2.2.1; omega, h.2.2.2⟩
  | ended x g n b => exact ⟨h.1, h.2.1, by have := h.2.2.1; omega, h.2.2.2⟩
  | shut g b => exact ⟨h.1, by have := h.2; omega⟩
def potT : Tk → Nat
  | .enter x _ => potM x
  | .kids l _ => potL l
  | .others l _ => l.length + potL l
  | .again x _ _ => 1 + gM x
  | .begin x _ _ => gM x
  | .ended x _ _ _ => 1 + gM x
  | .shut _ _ => 1
def potS : List Tk → Nat
  | [] => 0
  | t :: T => potT t + potS T
def crd (np : Nat) : List Tk → Nat
  | .enter x _ :: _ => if burn x then 0 else np + 1
  | _ => np + 1
theorem crd_le (np : Nat) (T : List Tk) : crd np T ≤ np + 1 := by
  unfold crd; split
  · split <;> omega
  · omega
def CsOk (np N f : Nat) : List Ch → Nat → Prop
  | [], _ => True
  | c :: C, n => c.i ≤ N ∧ c.k ≤ n ∧ (∀ t ∈ c.todo, TkOk np c.i t) ∧ C.length + c.k + potS c.todo + (np + 1) + 2050 * f ≤ 41002050 ∧ CsOk np N f C c.k
theorem CsOk.less {np N f f' : Nat} (hf : f' ≤ f) : ∀ {C : List Ch} {n n' : Nat}, CsOk np N f C n → n ≤ n' → CsOk np N f' C n'
  | [], _, _, _, _ => trivial
  | c :: C, n, n', ⟨h1, h2, h3, h4, h5⟩, hn => ⟨h1, by omega, h3, by omega, h5.less hf (Nat.le_refl _)⟩
structure MsOk (np N : Nat) (s : Ms) : Prop where
  hp : s.p.length = np
  hi : s.i ≤ N
  hT : ∀ t ∈ s.todo, TkOk np s.i t
  hf : s.f ≤ 20000
  hC : CsOk np N s.f s.C s.tr.length
  htr : ∀ e ∈ s.tr, e.1 < np
  hpot : s.C.length + s.tr.length + potS s.todo + crd np s.todo + 2050 * s.f ≤ 41002050
theorem setM_ok {C : List Ch} {p : List (Int × Int)} {tr : List (Nat × (Int × Int))} {g np : Nat} (v : Int × Int) (hg : g < np) (htr : ∀ e ∈ tr, e.1 < np) :
    (setM C p tr g v).1.length = p.length ∧ tr.length ≤ (setM C p tr g v).2.length ∧ (setM C p tr g v).2.length ≤ tr.length + 1 ∧ ∀ e ∈ (setM C p tr g v).2, e.1 < np := by
  unfold setM
  refine ⟨by simp, ?_⟩
  dsimp only
  split
  · refine ⟨by simp, by simp, fun e he => ?_⟩
    rcases List.mem_append.1 he with h | h
    · exact htr e h
    · rw [List.mem_singleton] at h; subst h; exact hg
  · exact ⟨Nat.le_refl _, by omega, htr⟩
theorem clrM_ok {C : List Ch} {np : Nat} : ∀ (n g : Nat) (p : List (Int × Int)) (tr : List (Nat × (Int × Int))), g + n ≤ np → (∀ e ∈ tr, e.1 < np) →
    (clrM C g n p tr).1.length = p.length ∧ tr.length ≤ (clrM C g n p tr).2.length ∧ (clrM C g n p tr).2.length ≤ tr.length + n ∧ ∀ e ∈ (clrM C g n p tr).2, e.1 < np
  | 0, g, p, tr, hg, htr => ⟨rfl, Nat.le_refl _, Nat.le_refl _, htr⟩
  | n + 1, g, p, tr, hg, htr => by
    obtain ⟨h1, h2, h3, h4⟩ := setM_ok (C := C) (p := p) (g := g) (-1, -1) (show g < np by omega) htr
    obtain ⟨k1, k2, k3, k4⟩ := clrM_ok n (g + 1) (setM C p tr g (-1, -1)).1 (setM C p tr g (-1, -1)).2 (by omega) h4
    exact ⟨k1.trans h1, by show tr.length ≤ (clrM C (g + 1) n _ _).2.length; omega, by show (clrM C (g + 1) n _ _).2.length ≤ _; omega, k4⟩
theorem undo_length (p : List (Int × Int)) (tr : List (Nat × (Int × Int))) (k : Nat) : (undo p tr k).length = p.length := by
  unfold undo
  induction tr.drop k with
  | nil => rfl
  | cons e l ih => simp only [List.foldr_cons, List.length_set, ih]
section
variable (offs : Nat → Int) (takes : Rt → Nat → Option Nat)
theorem back_ok {np N : Nat} {T i p tr c C f} (h : MsOk np N ⟨T, i, p, tr, c :: C, f⟩) : MsOk np N ⟨c.todo, c.i, undo p tr c.k, tr.take c.k, C, f⟩ := by
  obtain ⟨h1, h2, h3, h4, h5, h6, h7⟩ := h
  obtain ⟨k1, k2, k3, k4, k5⟩ := h5
  have k2 : c.k ≤ tr.length := k2
  have k4 : C.length + c.k + potS c.todo + (np + 1) + 2050 * f ≤ 41002050 := k4
  refine ⟨by show (undo p tr c.k).length = np; rw [undo_length]; exact h1, k1, k3, h4, ?_, fun e he => h6 e (List.mem_of_mem_take he), ?_⟩
  · show CsOk np N f C (tr.take c.k).length
    rw [List.length_take, Nat.min_eq_left k2]; exact k5
  · show C.length + (tr.take c.k).length + potS c.todo + crd np c.todo + 2050 * f ≤ 41002050
    rw [List.length_take, Nat.min_eq_left k2]
    have := crd_le np c.todo
    omega
def DsOk (np N : Nat) : Ds → Prop
  | .go s => MsOk np N s
  | .failed s => MsOk np N s
  | .dry => True
theorem msok_drop {np N : Nat} {t : Tk} {T i p tr C f} (h : MsOk np N ⟨t :: T, i, p, tr, C, f⟩) (ht : crd np (t :: T) = np + 1) : MsOk np N ⟨T, i, p, tr, C, f⟩ := by
  obtain ⟨h1, h2, h3, h4, h5, h6, h7⟩ := h
  refine ⟨h1, h2, fun x hx => h3 x (List.mem_cons_of_mem _ hx), h4, h5, h6, ?_⟩
  have h7 : C.length + tr.length + (potT t + potS T) + crd np (t :: T) + 2050 * f ≤ 41002050 := h7
  have := crd_le np T
  show C.length + tr.length + potS T + crd np T + 2050 * f ≤ 41002050
  omega
theorem msok_put {np N : Nat} {t : Tk} {T T2 i p tr C f} (h : MsOk np N ⟨t :: T, i, p, tr, C, f⟩) (h2 : ∀ x ∈ T2, x ∈ T ∨ TkOk np i x) (h3 : potS T2 + crd np T2 ≤ potT t + potS T + crd np (t :: T)) : MsOk np N ⟨T2, i, p, tr, C, f⟩ := by
  obtain ⟨a1, a2, a3, a4, a5, a6, a7⟩ := h
  refine ⟨a1, a2, fun x hx => ?_, a4, a5, a6, ?_⟩
  · rcases h2 x hx with h | h
    · exact a3 x (List.mem_cons_of_mem _ h)
    · exact h
  · have a7 : C.length + tr.length + (potT t + potS T) + crd np (t :: T) + 2050 * f ≤ 41002050 := a7
    show C.length + tr.length + potS T2 + crd np T2 + 2050 * f ≤ 41002050
    omega
theorem msok_push {np N : Nat} {t : Tk} {T T2 T3 i p tr C f} (h : MsOk np N ⟨t :: T, i, p, tr, C, f⟩) (h2 : ∀ x ∈ T2, x ∈ T ∨ TkOk np i x) (h3 : potS T2 + crd np T2 + 1 ≤ potT t + potS T + crd np (t :: T))
    (h4 : ∀ x ∈ T3, x ∈ T ∨ TkOk np i x) (h5 : potS T3 + (np + 1) ≤ potT t + potS T + crd np (t :: T)) : MsOk np N ⟨T2, i, p, tr, ⟨T3, i, tr.length⟩ :: C, f⟩ := by
  obtain ⟨a1, a2, a3, a4, a5, a6, a7⟩ := h
  have a7 : C.length + tr.length + (potT t + potS T) + crd np (t :: T) + 2050 * f ≤ 41002050 := a7
  refine ⟨a1, a2, fun x hx => ?_, a4, ⟨a2, Nat.le_refl _, fun x hx => ?_, by show C.length + tr.length + potS T3 + (np + 1) + 2050 * f ≤ _; omega, a5⟩, a6, ?_⟩
  · rcases h2 x hx with h | h
    · exact a3 x (List.mem_cons_of_mem _ h)
    · exact h
  · rcases h4 x hx with h | h
    · exact a3 x (List.mem_cons_of_mem _ h)
    · exact h
  · show C.length + 1 + tr.length + potS T2 + crd np T2 + 2050 * f ≤ 41002050
    omega
theorem crd_en {np : Nat} {x : Rt} {g : Nat} {T : List Tk} (h : ¬ burn x) : crd np (.enter x g :: T) = np + 1 := by show (if burn x then 0 else np + 1) = np + 1; rw [if_neg h]
theorem crd_bu {np : Nat} {x : Rt} {g : Nat} {T : List Tk} (h : burn x) : crd np (.enter x g :: T) = 0 := by show (if burn x then 0 else np + 1) = 0; rw [if_pos h]
theorem dec_ok {np N : Nat} {x g n T i p tr C f} (h : MsOk np N ⟨.again x g n :: T, i, p, tr, C, f⟩) : MsOk np N (decM x g n T ⟨.again x g n :: T, i, p, tr, C, f⟩) := by
  obtain ⟨hx, hk, hn, hm⟩ := h.hT _ List.mem_cons_self
  obtain ⟨r1, r2, r3, y, hy, hyo, hyb, hyg⟩ := hx.rep hk
  have hb : crd np (.again x g n :: T) = np + 1 := rfl
  have hcb : crd np (.begin x g n :: T) = np + 1 := rfl
  have hpb : potS (.begin x g n :: T) = gM x + potS T := rfl
  have hcT := crd_le np T
  have hp : potT (.again x g n) = 1 + gM x := rfl
  unfold decM
  split
  · rename_i e
    refine msok_put h (fun z hz => ?_) (by omega)
    rcases List.mem_cons.1 hz with rfl | hz
    · exact .inr ⟨hx, hk, hn, fun hm1 => by omega⟩
    · exact .inl hz
  · split
    · exact msok_put h (fun z hz => .inl hz) (by omega)
    · rename_i e1 e2
      have hbeg : TkOk np i (.begin x g n) := ⟨hx, hk, hn, fun hm1 => by
        have := hm hm1
        by_cases e : x.ma ≤ ((n : Nat) : Int)
        · exact absurd ⟨hm1, e⟩ e2
        · omega⟩
      have hmem : ∀ z ∈ (.begin x g n :: T), z ∈ T ∨ TkOk np i z := fun z hz => by
        rcases List.mem_cons.1 hz with rfl | hz
        · exact .inr hbeg
        · exact .inl hz
      split
      · exact msok_push h (fun z hz => .inl hz) (by omega) hmem (by omega)
      · exact msok_push h hmem (by omega) (fun z hz => .inl hz) (by omega)
theorem burn_ok {np N : Nat} {x g T T2 i j p tr C f} (hnp : np ≤ 512) (h : MsOk np N ⟨.enter x g :: T, i, p, tr, C, f⟩) (hb : burn x) (hf : f ≠ 0) (hj : i ≤ j) (hjN : j ≤ N) (h2 : ∀ z ∈ T2, z ∈ T ∨ TkOk np j z) (h3 : potS T2 ≤ 1537 + potS T) :
    MsOk np N ⟨T2, j, p, tr, C, f - 1⟩ := by
  obtain ⟨a1, a2, a3, a4, a5, a6, a7⟩ := h
  have a7 : C.length + tr.length + (potM x + potS T) + crd np (.enter x g :: T) + 2050 * f ≤ 41002050 := a7
  refine ⟨a1, hjN, fun z hz => ?_, by show f - 1 ≤ 20000; have a4 : f ≤ 20000 := a4; omega, a5.less (Nat.sub_le f 1) (Nat.le_refl _), a6, ?_⟩
  · rcases h2 z hz with h | h
    · exact (a3 z (List.mem_cons_of_mem _ h)).up hj
    · exact h
  · have := crd_le np T2
    show C.length + tr.length + potS T2 + crd np T2 + 2050 * (f - 1) ≤ 41002050
    omega
theorem ent_ok {np N : Nat} {x g T i p tr C f} (hnp : np ≤ 512) (htk : ∀ x i n, i ≤ N → takes x i = some n → i + n ≤ N) (h : MsOk np N ⟨.enter x g :: T, i, p, tr, C, f⟩) : DsOk np N (entM takes x g T ⟨.enter x g :: T, i, p, tr, C, f⟩) := by
  have hx : XOk np x g := h.hT _ List.mem_cons_self
  have hp := potM_eq x
  have hi : i ≤ N := h.hi
  unfold entM
  split
  · rename_i e
    rw [if_pos e] at hp
    refine msok_put h (fun z hz => ?_) (by rw [crd_en (fun hb => hb.1 e)]; show potL x.kids + potS T + _ ≤ potM x + potS T + _; have := crd_le np (.kids x.kids g :: T); omega)
    rcases List.mem_cons.1 hz with rfl | hz
    · exact .inr (hx.kids (by omega))
    · exact .inl hz
  · rename_i e0
    rw [if_neg e0] at hp
    split
    · rename_i e
      rw [if_pos e] at hp
      have h2 := hx.alt e
      refine msok_put h (fun z hz => ?_) (by rw [crd_en (fun hb => hb.2.1 e)]; show x.kids.length + potL x.kids + potS T + _ ≤ potM x + potS T + _; have := crd_le np (.others x.kids g :: T); omega)
      rcases List.mem_cons.1 hz with rfl | hz
      · exact .inr ⟨hx.kids (by omega), fun hn => by rw [hn] at h2; simp at h2⟩
      · exact .inl hz
    · rename_i e1
      rw [if_neg e1] at hp
      split
      · rename_i e
        rw [if_pos e] at hp
        obtain ⟨r1, r2, r3, y, hy, hyo, hyb, hyg⟩ := hx.rep e
        have hg : gM x = gL x.kids := by rw [gM_eq, if_neg (by omega)]; omega
        refine msok_put h (fun z hz => ?_) (by rw [crd_en (fun hb => hb.2.2 e)]; show 1 + gM x + potS T + _ ≤ potM x + potS T + _; have := crd_le np (.again x g 0 :: T); omega)
        rcases List.mem_cons.1 hz with rfl | hz
        · exact .inr ⟨hx, e, by omega, fun hm => by rcases r3 with r3 | r3 <;> omega⟩
        · exact .inl hz
      · rename_i e7
        have hb : burn x := ⟨e0, e1, e7⟩
        split
        · trivial
        · rename_i hf
          have hf : f ≠ 0 := hf
          split
          · rename_i e
            obtain ⟨y, hy, hyo⟩ := hx.one (.inl e)
            rw [hy]
            have hp2 := potM_le1 y
            have hp3 := hyo.pt
            have hgr := hx.gr
            rw [gM_eq, if_pos e] at hgr
            unfold kgo at hyo
            rw [if_pos e] at hyo
            refine burn_ok hnp h hb hf (Nat.le_refl _) hi (fun z hz => ?_) (by show potM y + (1 + potS T) ≤ _; omega)
            rcases List.mem_cons.1 hz with rfl | hz
            · exact .inr hyo
            · rcases List.mem_cons.1 hz with rfl | hz
              · exact .inr ⟨by omega, Nat.le_refl _⟩
              · exact .inl hz
          · rename_i e5
            split
            · rename_i e
              obtain ⟨y, hy, hyo⟩ := hx.one (.inr (.inl e))
              rw [hy]
              have hp2 := potM_le1 y
              have hp3 := hyo.pt
              unfold kgo at hyo
              rw [if_neg e5] at hyo
              refine burn_ok hnp h hb hf (Nat.le_refl _) hi (fun z hz => ?_) (by show potM y + potS T ≤ _; omega)
              rcases List.mem_cons.1 hz with rfl | hz
              · exact .inr hyo
              · exact .inl hz
            · split
              · rename_i n hn
                exact burn_ok hnp h hb hf (Nat.le_add_right _ _) (htk _ _ _ hi hn) (fun z hz => .inl hz) (by omega)
              · exact burn_ok hnp h hb hf (Nat.le_refl _) hi (fun z hz => .inl hz) (by omega)
theorem do_ok {np N : Nat} {t T i p tr C f} (hnp : np ≤ 512) (htk : ∀ x i n, i ≤ N → takes x i = some n → i + n ≤ N) (h : MsOk np N ⟨t :: T, i, p, tr, C, f⟩) : DsOk np N (doM offs takes t T ⟨t :: T, i, p, tr, C, f⟩) := by
  have ht := h.hT t List.mem_cons_self
  cases t with
  | enter x g => exact ent_ok takes hnp htk h
  | kids l g =>
    have ht : LOk np l g := ht
    match l, ht, h with
    | [], _, h => exact msok_drop h rfl
    | [x], ht, h =>
      refine msok_put h (fun z hz => ?_) (by show potM x + potS T + _ ≤ potL [x] + potS T + crd np (.kids [x] g :: T); have := crd_le np (.enter x g :: T); have h2 : crd np (.kids [x] g :: T) = np + 1 := rfl; simp only [potL]; omega)
      rcases List.mem_cons.1 hz with rfl | hz
      · exact .inr ht.head.1
      · exact .inl hz
    | x :: y :: l, ht, h =>
      refine msok_put h (fun z hz => ?_) (by show potM x + (potL (y :: l) + potS T) + _ ≤ potL (x :: y :: l) + potS T + crd np (.kids (x :: y :: l) g :: T); have := crd_le np (.enter x g :: .kids (y :: l) (g + gM x) :: T); have h2 : crd np (.kids (x :: y :: l) g :: T) = np + 1 := rfl; rw [show potL (x :: y :: l) = potM x + potL (y :: l) from by rw [potL]]; omega)
      rcases List.mem_cons.1 hz with rfl | hz
      · exact .inr ht.head.1
      · rcases List.mem_cons.1 hz with rfl | hz
        · exact .inr ht.head.2
        · exact .inl hz
  | others l g =>
    have ht : LOk np l g ∧ l ≠ [] := ht
    match l, ht, h with
    | [], _, h => exact msok_drop h rfl
    | [x], ht, h =>
      refine msok_put h (fun z hz => ?_) (by show potM x + potS T + _ ≤ 1 + potL [x] + potS T + crd np (.others [x] g :: T); have := crd_le np (.enter x g :: T); have h2 : crd np (.others [x] g :: T) = np + 1 := rfl; simp only [potL]; omega)
      rcases List.mem_cons.1 hz with rfl | hz
      · exact .inr ht.1.head.1
      · exact .inl hz
    | x :: y :: l, ht, h =>
      have h2 : crd np (.others (x :: y :: l) g :: T) = np + 1 := rfl
      have h3 : potL (x :: y :: l) = potM x + potL (y :: l) := by rw [potL]
      refine msok_push h (fun z hz => ?_) (by show potM x + potS T + _ + 1 ≤ (l.length + 1 + 1) + potL (x :: y :: l) + potS T + crd np (.others (x :: y :: l) g :: T); have := crd_le np (.enter x g :: T); omega) (fun z hz => ?_)
        (by show (l.length + 1) + potL (y :: l) + potS T + (np + 1) ≤ (l.length + 1 + 1) + potL (x :: y :: l) + potS T + crd np (.others (x :: y :: l) g :: T); omega)
      · rcases List.mem_cons.1 hz with rfl | hz
        · exact .inr ht.1.head.1
        · exact .inl hz
      · rcases List.mem_cons.1 hz with rfl | hz
        · exact .inr ⟨ht.1.head.2, by simp⟩
        · exact .inl hz
  | again x g n => exact dec_ok h
  | begin x g n =>
    obtain ⟨hx, hk, hn, hm⟩ := ht
    obtain ⟨r1, r2, r3, y, hy, hyo, hyb, hyg⟩ := hx.rep hk
    show DsOk np N (match x.kids with | [y] => _ | _ => _)
    rw [hy]
    obtain ⟨a1, a2, a3, a4, a5, a6, a7⟩ := h
    have a7 : C.length + tr.length + (gM x + potS T) + (np + 1) + 2050 * f ≤ 41002050 := a7
    have hgr := hx.gr
    obtain ⟨c1, c2, c3, c4⟩ := clrM_ok (C := C) (gM x) g p tr hgr a6
    refine ⟨c1.trans a1, a2, fun z hz => ?_, a4, a5.less (Nat.le_refl _) c2, c4, ?_⟩
    · rcases List.mem_cons.1 hz with rfl | hz
      · exact hyo
      · rcases List.mem_cons.1 hz with rfl | hz
        · exact ⟨hx, hk, Nat.le_refl _, hn, hm⟩
        · exact a3 z (List.mem_cons_of_mem _ hz)
    · show C.length + (clrM C g (gM x) p tr).2.length + (potM y + ((1 + gM x) + potS T)) + crd np (.enter y g :: .ended x g n i :: T) + 2050 * f ≤ 41002050
      rw [crd_bu hyb, potM_eq y, if_neg hyb.1, if_neg hyb.2.1, if_neg hyb.2.2]
      omega
  | ended x g n b =>
    obtain ⟨hx, hk, hb, hn, hm⟩ := ht
    obtain ⟨r1, r2, r3, y, hy, hyo, hyb, hyg⟩ := hx.rep hk
    show DsOk np N (if _ then _ else _)
    split
    · exact msok_drop h rfl
    · rename_i e
      refine msok_put h (fun z hz => ?_) (by show 1 + gM x + potS T + (np + 1) ≤ 1 + gM x + potS T + (np + 1); omega)
      rcases List.mem_cons.1 hz with rfl | hz
      · have e : ¬ (x.mi ≤ ((n : Nat) : Int) ∧ i = b) := e
        refine .inr ⟨hx, hk, ?_, fun h1 => by have := hm h1; omega⟩
        by_cases h1 : x.mi ≤ ((n : Nat) : Int)
        · have : i ≠ b := fun h2 => e ⟨h1, h2⟩
          omega
        · omega
      · exact .inl hz
  | shut g b =>
    have ht : g < np ∧ b ≤ i := ht
    obtain ⟨a1, a2, a3, a4, a5, a6, a7⟩ := h
    have a7 : C.length + tr.length + (1 + potS T) + (np + 1) + 2050 * f ≤ 41002050 := a7
    obtain ⟨c1, c2, c3, c4⟩ := setM_ok (C := C) (p := p) (tr := tr) (offs b, offs i) ht.1 a6
    refine ⟨c1.trans a1, a2, fun z hz => a3 z (List.mem_cons_of_mem _ hz), a4, a5.less (Nat.le_refl _) c2, c4, ?_⟩
    have := crd_le np T
    show C.length + (setM C p tr g (offs b, offs i)).2.length + potS T + crd np T + 2050 * f ≤ 41002050
    omega
theorem start_ok {np N : Nat} {x : Rt} {i : Nat} {p : List (Int × Int)} {f : Nat} (hnp : np ≤ 512) (hx : XOk np x 0) (hp : p.length = np) (hi : i ≤ N) (hf : f ≤ 20000) : MsOk np N ⟨[.enter x 0], i, p, [], [], f⟩ := by
  refine ⟨hp, hi, fun z hz => ?_, hf, trivial, fun e he => (by cases he), ?_⟩
  · rw [List.mem_singleton] at hz; subst hz; exact hx
  · show 0 + 0 + (potM x + 0) + crd np [.enter x 0] + 2050 * f ≤ 41002050
    have h1 := potM_le1 x
    have h2 := hx.pt
    have h3 := crd_le np [.enter x 0]
    omega
end
mutual
  /-- A tree that may be has one kid where one is asked for. -/
  theorem ok_sg : ∀ (t : Rt), okM t = true → Sg t
    | .mk k ch nt rv rows mi ma lz kv l => fun h => .mk _ (fun hk => by
        have h1 := okM_fields h
        have h2 := h1.2.1
        have hl : l.length = 1 := by
          have hk : k = 5 ∨ k = 6 ∨ k = 7 := hk
          have h2 : mkB k l = true := h2
          unfold mkB at h2
          rw [if_neg (by omega), if_neg (by omega)] at h2
          split at h2
          · simpa using h2
          · rw [if_pos (by omega)] at h2
            simp at h2
            exact h2.1
        exact List.length_eq_one_iff.1 hl) (fun x hx => ok_sgL l (okM_fields h).2.2 x hx)
  theorem ok_sgL : ∀ (l : List Rt), okL l = true → ∀ x ∈ l, Sg x
    | [], _, x, hx => by cases hx
    | t :: l, h, x, hx => by
      simp [okL] at h
      rcases List.mem_cons.1 hx with e | e
      · rw [e]; exact ok_sg t h.1
      · exact ok_sgL l h.2 x e
end
end Go.Proofs.YtcnliipkfccohabGreat
end
section
namespace Go.Proofs.YtcnliipkfccohabGreat
open Go.ChangeShapes Go.WideShapes Go.ChangeAt Go.RowKit
open SetM SpanM
set_option maxRecDepth 100000
set_option linter.unusedVariables false
structure Chg (w w' : World) (S : List Nat) : Prop where
  os : w'.os = w.os
  tape : w'.tape = w.tape
  output : w'.output = w.output
  size : w.heap.size ≤ w'.heap.size
  block : ∀ k, k < w.heap.size → k ∉ S → w'.heap[k]? = w.heap[k]?
theorem chg_of {w w' : World} (h : Below w.heap.size w w') (S : List Nat) : Chg w w' S := ⟨h.os, h.tape, h.output, h.size, fun k hk _ => h.block k hk⟩
theorem chg_refl (w : World) (S : List Nat) : Chg w w S := chg_of (bl_refl w) S
def InS (R : World) (S : List Nat) (k : Nat) : Prop := k ∈ S ∨ R.heap.size ≤ k
theorem Chg.grown {R w w' : World} {S : List Nat} {row : Option Nat} (h : Chg R w S) (hg : w.grownBy w' row) (hr : ∀ k, row = some k → InS R S k) : Chg R w' S :=
  ⟨hg.os.trans h.os, hg.tape.trans h.tape, hg.output.trans h.output, Nat.le_trans h.size hg.size, fun k hk hn => (hg.block k (Nat.lt_of_lt_of_le hk h.size) (fun e => by
    rcases hr k e.symm with h1 | h1
    · exact hn h1
    · omega)).trans (h.block k hk hn)⟩
theorem gr_bl {w w' : World} (h : Below w.heap.size w w') (row : Option Nat) : w.grownBy w' row := ⟨h.os, h.tape, h.output, h.size, fun k hk _ => h.block k hk⟩
theorem gr_set (w : World) (g o : Nat) (u : Value) : w.grownBy (w.setCell ⟨g, o, none⟩ u) (some g) := grown_set (grown_refl w (some g)) o u
theorem cell_gr {w w' : World} {row : Option Nat} {p : Addr} {v : Value} (hg : w.grownBy w' row) (hne : row ≠ some p.block) (hc : w.cell? p = some v) : w'.cell? p = some v := by
  rw [World.cell?_of_block (hg.block p.block (World.block_lt_of_cell? w p hc) (fun e => hne e.symm))]; exact hc
structure Cm (W : World) (g : Nat) (cs : List Value) : Prop where
  c : ∀ j u, cs[j]? = some u → W.cell? ⟨g, j, none⟩ = some u
  f : ∀ o, W.frozen? ⟨g, o, none⟩ = false
  s : g < W.heap.size
theorem Cm.gr {w w' : World} {g : Nat} {cs : List Value} {row : Option Nat} (h : Cm w g cs) (hg : w.grownBy w' row) (hne : row ≠ some g) : Cm w' g cs :=
  ⟨fun j u hu => cell_gr hg hne (h.c j u hu), fun o => (World.frozen?_of_block (hg.block g h.s (fun e => hne e.symm))).trans (h.f o), Nat.lt_of_lt_of_le h.s hg.size⟩
theorem Cm.bl {w w' : World} {g : Nat} {cs : List Value} (h : Cm w g cs) (hb : Below w.heap.size w w') : Cm w' g cs := h.gr (gr_bl hb none) (by simp)
theorem Cm.put {W : World} {g : Nat} {cs : List Value} (h : Cm W g cs) (o : Nat) (v : Value) : Cm (W.setCell ⟨g, o, none⟩ v) g (cs.set o v) := by
  refine ⟨fun j u hu => ?_, fun q => by rw [World.frozen?_setCell]; exact h.f q, by simpa using h.s⟩
  rw [List.getElem?_set] at hu
  split at hu
  · rename_i e
    subst e
    split at hu
    · rename_i hlt
      injection hu with hu
      subst hu
      exact World.cell?_setCell_same _ _ _ (h.c o _ (List.getElem?_eq_getElem hlt))
    · cases hu
  · rename_i e
    rw [World.cell?_setCell_other _ _ _ _ (fun q => e (by injection q))]
    exact h.c j u hu
section
variable {P : Program}
theorem step_src5 {ops : Array Oper} {o : Oper} {a : Act} {K : Act → World → Prop} {Q : Exit → Act → World → Prop} {E : Prop} (w : World) (hgd : o.guard = none) (s x : Operand) (t : TypeId)
    (ho : o.op = .call { callee := .builtin .append, args := #[s, x], argTypes := #[t, t] })
    (base : Nat) (e : TypeId) (i : TypeInfo) (z : Value) (size bytes : Nat) (ht : P.underlying t = some (.slice e)) (hi : P.info? e = some i) (hz : i.zero = some z)
    (hsize : i.size = size) (hby : i.bytes = bytes) (hzs : z.cells.size = size) (hsz : 0 < size)
    (v : Value) (n : Nat) (xs : List Value) (hs : a.eval s = v) (hown : w.ownsRow base e size v n xs)
    (A : Option Addr) (m c : Nat) (news : List Value) (hx : a.eval x = .slice A m c) (hr : Src w size A m news) (h1 : ∀ u ∈ news, u.oneCell' = true)
    (h63 : n + m ≤ 100000000) (hbytes : bytes ≤ 1000) (hbase : base ≤ w.heap.size)
    (h : ∀ v' w', w'.ownsRow base e size v' (n + m) (xs ++ news) → w.grownBy w' v.ownBlock → (v'.ownBlock = v.ownBlock ∨ ∃ k, v'.ownBlock = some k ∧ w.heap.size ≤ k) → K (a.put o.dst v') w') :
    if Region.wanted o (yielded ops a.tmps) = true then Oper.wp P o a w K Q else E := by
  have hw : Region.wanted o (yielded ops a.tmps) = true := by simp [Region.wanted, hgd]
  rw [if_pos hw]
  obtain ⟨v', w', hrun, h2, h3, h5⟩ := run_app_src5 (P := P) w base t o.type e i z size bytes ht hi hz hsize hby hzs hsz v n xs hown A m c news hr h1 h63 hbytes hbase
  unfold Oper.wp execOp
  simp only [ho, resolve, invoke, builtin, Sem.run_bind, Sem.run_pure, Result.andThen_ok, List.map_toArray, List.map_cons, List.map_nil, hs, hx, hrun]
  exact h v' w' h2 h3 h5
end
theorem al_blk {W : World} {n j : Nat} {u : Value} {o : Obj} (h : W.cell? ⟨n, j, none⟩ = some u) : (W.alloc o).cell? ⟨n, j, none⟩ = some u := cell_later (bl_alloc (bl_refl W) o) h
theorem dr_blk {W : World} {n j : Nat} {u : Value} (h : W.cell? ⟨n, j, none⟩ = some u) : W.drew.cell? ⟨n, j, none⟩ = some u := cell_later (bl_drew (bl_refl W)) h
theorem cells_new (w : World) (cs : List Value) (ty : TypeId) : ∀ j u, cs[j]? = some u → (w.alloc (.cells cs.toArray ty)).cell? ⟨w.heap.size, j, none⟩ = some u := fun j u hu => by
  rw [World.cell?_alloc_mark w cs.toArray ty (0, 0) j, ← hu]
  simp
theorem cm_new {w : World} {n : Nat} (cs : List Value) (ty : TypeId) (hn : w.heap.size = n) : Cm (w.alloc (.cells cs.toArray ty)) n cs := by
  subst hn
  exact ⟨cells_new w cs ty, fun o => by go_simp, by simp⟩
theorem set_alloc_size (w : World) (g o : Nat) (u : Value) : (w.setCell ⟨g, o, none⟩ u).heap.size = w.heap.size := by simp [World.setCell]
def PtAt (w : World) (v : Value) (n : Nat) (q : Nat → Nat) : Prop :=
  (v = .slice none 0 0 ∧ n = 0) ∨ ∃ b c, v = .slice (some ⟨b, 0, none⟩) n c ∧ n ≤ c ∧ c ≤ maxLen ∧ ∀ i, i < n → w.cell? ⟨b, i, none⟩ = some (.pointer (some ⟨q i, 0, none⟩))
inductive NdAt (w : World) : Nat → Rt → Nat → Prop
  | mk (b : Nat) (x : Rt) (g : Nat) (kv : Value) (q : Nat → Nat)
      (hc : ∀ j u, (x.cs ++ [kv, .int .i64 ((g : Nat) : Int), .int .i64 ((g + gM x : Nat) : Int)])[j]? = some u → w.cell? ⟨b, j, none⟩ = some u) (hr : RwAt w x.rv x.rows)
      (hk : PtAt w kv x.kids.length q) (hs : ∀ i (h : i < x.kids.length), NdAt w (q i) x.kids[i] (kgo x g + gL (x.kids.take i))) : NdAt w b x g
theorem ptat_below {w w' : World} {v : Value} {n : Nat} {q : Nat → Nat} (h : PtAt w v n q) (hb : Below w.heap.size w w') : PtAt w' v n q := by
  rcases h with h | ⟨b, c, h1, h2, h3, h4⟩
  · exact .inl h
  · exact .inr ⟨b, c, h1, h2, h3, fun i hi => cell_later hb (h4 i hi)⟩
inductive TwAt (W : World) : Tk → Int → Nat → Int → Int → Prop
  | enter (q : Nat) (x : Rt) (g : Nat) (n fr : Int) (h : NdAt W q x g) : TwAt W (.enter x g) 0 q n fr
  | kids (q : Nat) (X : Rt) (G : Nat) (n : Nat) (fr : Int) (h : NdAt W q X G) (hn : n ≤ X.kids.length) (hl : X.kids.length ≤ 1000) : TwAt W (.kids (X.kids.drop n) (kgo X G + gL (X.kids.take n))) 1 q n fr
  | others (q : Nat) (X : Rt) (G : Nat) (n : Nat) (fr : Int) (h : NdAt W q X G) (hn : n < X.kids.length) (hl : X.kids.length ≤ 1000) : TwAt W (.others (X.kids.drop n) (kgo X G + gL (X.kids.take n))) 2 q n fr
  | again (q : Nat) (x : Rt) (g n : Nat) (fr : Int) (h : NdAt W q x g) : TwAt W (.again x g n) 3 q n fr
  | begin (q : Nat) (x : Rt) (g n : Nat) (fr : Int) (h : NdAt W q x g) : TwAt W (.begin x g n) 4 q n fr
  | ended (q : Nat) (x : Rt) (g n b : Nat) (h : NdAt W q x g) : TwAt W (.ended x g n b) 5 q n b
  | shut (q : Nat) (x : Rt) (g b : Nat) (n : Int) (h : NdAt W q x g) : TwAt W (.shut g b) 6 q n b
inductive TkAt (W : World) (F : Nat → Prop) (w : World) : Value → List Tk → Prop
  | nil : TkAt W F w (.pointer none) []
  | cons (b : Nat) (t : Tk) (T : List Tk) (rv : Value) (wh : Int) (q : Nat) (n fr : Int) (hF : ¬ F b)
      (hc : ∀ j u, ([.int .i64 wh, .pointer (some ⟨q, 0, none⟩), .int .i64 n, .int .i64 fr, rv] : List Value)[j]? = some u → w.cell? ⟨b, j, none⟩ = some u) (ht : TwAt W t wh q n fr) (h : TkAt W F w rv T) : TkAt W F w (.pointer (some ⟨b, 0, none⟩)) (t :: T)
theorem tk_step {W w w' : World} {F F' : Nat → Prop} {row : Option Nat} {v : Value} {T : List Tk} (h : TkAt W F w v T) (hg : w.grownBy w' row) (hr : ∀ k, row = some k → F k ∨ w.heap.size ≤ k) (hF : ∀ k, F' k → F k ∨ w.heap.size ≤ k) : TkAt W F' w' v T := by
  induction h with
  | nil => exact .nil
  | cons b t T rv wh q n fr hb hc ht h ih =>
    have hlt : b < w.heap.size := World.block_lt_of_cell? w _ (hc 0 _ rfl)
    refine .cons b t T rv wh q n fr (fun e => ?_) (fun j u hu => cell_gr hg (fun e => ?_) (hc j u hu)) ht ih
    · rcases hF b e with h1 | h1
      · exact hb h1
      · omega
    · rcases hr b e with h1 | h1
      · exact hb h1
      · omega
def ChsAt (W : World) (F : Nat → Prop) (w : World) : List (Value × Nat × Nat) → List Ch → Prop
  | [], [] => True
  | e :: L, c :: C => TkAt W F w e.1 c.todo ∧ e.2.1 = c.i ∧ e.2.2 = c.k ∧ ChsAt W F w L C
  | _, _ => False
theorem chs_step {W w w' : World} {F F' : Nat → Prop} {row : Option Nat} (hg : w.grownBy w' row) (hr : ∀ k, row = some k → F k ∨ w.heap.size ≤ k) (hF : ∀ k, F' k → F k ∨ w.heap.size ≤ k) : ∀ {L : List (Value × Nat × Nat)} {C : List Ch}, ChsAt W F w L C → ChsAt W F' w' L C
  | [], [], _ => trivial
  | e :: L, c :: C, h => ⟨tk_step h.1 hg hr hF, h.2.1, h.2.2.1, chs_step hg hr hF h.2.2.2⟩
  | [], _ :: _, h => h.elim
  | _ :: _, [], h => h.elim
theorem chs_len {W w : World} {F : Nat → Prop} : ∀ {L : List (Value × Nat × Nat)} {C : List Ch}, ChsAt W F w L C → L.length = C.length
  | [], [], _ => rfl
  | e :: L, c :: C, h => by simp [chs_len h.2.2.2]
  | [], _ :: _, h => h.elim
  | _ :: _, [], h => h.elim
def encC (e : Value × Nat × Nat) : List Value := [e.1, .int .i64 ((e.2.1 : Nat) : Int), .int .i64 ((e.2.2 : Nat) : Int)]
def flatC (L : List (Value × Nat × Nat)) : List Value := L.flatMap encC
def encT (e : Nat × (Int × Int)) : List Value := [.int .i64 ((e.1 : Nat) : Int), .int .i64 e.2.1, .int .i64 e.2.2]
def flatT (L : List (Nat × (Int × Int))) : List Value := L.flatMap encT
theorem flat_set2 (l : List Sp) (i : Nat) (h : i < l.length) (s : Sp) : ((flat l).set (i * 2) (.int .i64 s.1)).set (i * 2 + 1) (.int .i64 s.2) = flat (l.set i s) := by
  induction l generalizing i with
  | nil => simp at h
  | cons a r ih =>
    cases i with
    | zero => rfl
    | succ i =>
      have e : ∀ (b : Sp) (q : List Sp), flat (b :: q) = .int .i64 b.1 :: .int .i64 b.2 :: flat q := fun _ _ => rfl
      have h1 : (i + 1) * 2 = i * 2 + 1 + 1 := by omega
      rw [e, h1, List.set_cons_succ, List.set_cons_succ, List.set_cons_succ, List.set_cons_succ, ih i (by simpa using h), List.set_cons_succ, e]
theorem own_putS {w : World} {base g n c : Nat} {l : List Sp} (h : w.ownsRow base 33 2 (.slice (some ⟨g, 0, none⟩) n c) n (flat l)) (i : Nat) (hi : i < l.length) (s : Sp) :
    ((w.setCell ⟨g, i * 2, none⟩ (.int .i64 s.1)).setCell ⟨g, i * 2 + 1, none⟩ (.int .i64 s.2)).ownsRow base 33 2 (.slice (some ⟨g, 0, none⟩) n c) n (flat (l.set i s)) := by
  have h1 := (World.ownsRow.stored h (i * 2) (.int .i64 s.1)).1
  have h2 := (World.ownsRow.stored h1 (i * 2 + 1) (.int .i64 s.2)).1
  rw [flat_set2 l i hi s] at h2
  exact h2
structure Mx where
  W : World
  B : Nat
  m : Nat
  s : ByteArray
  plb : Nat
  pc : Nat
  ps : List Nat
  fold : Bool
  rb : Nat
  pb : Nat
  np : Nat
  qc : Nat
def Mx.F (X : Mx) (tv cv : Value) (k : Nat) : Prop := k = X.m ∨ k = X.pb ∨ tv.ownBlock = some k ∨ cv.ownBlock = some k
def Mx.cs (X : Mx) (f i : Nat) (rv tv cv : Value) : List Value :=
  [.string X.s, .slice (some ⟨X.plb, 0, none⟩) X.ps.length X.pc, .bool X.fold, .int .i64 ((f : Nat) : Int), .pointer (some ⟨X.rb, 0, none⟩), .int .i64 ((i : Nat) : Int), rv, .slice (some ⟨X.pb, 0, none⟩) X.np X.qc, tv, cv]
structure MR (X : Mx) (R : World) (S : List Nat) (w : World) (T : List Tk) (p : List (Int × Int)) (tr : List (Nat × (Int × Int))) (C : List Ch) (rv tv cv : Value) (L : List (Value × Nat × Nat)) : Prop where
  bW : Below X.W.heap.size X.W w
  chg : Chg R w S
  hB : X.W.heap.size ≤ X.B
  hm : X.B ≤ X.m
  ml : X.m < w.heap.size
  im : InS R S X.m
  ip : InS R S X.pb
  it : ∀ k, tv.ownBlock = some k → InS R S k
  ic : ∀ k, cv.ownBlock = some k → InS R S k
  mp : X.m ≠ X.pb
  mt : tv.ownBlock ≠ some X.m
  mc : cv.ownBlock ≠ some X.m
  pt : tv.ownBlock ≠ some X.pb
  pc : cv.ownBlock ≠ some X.pb
  tc : ∀ k, tv.ownBlock = some k → cv.ownBlock ≠ some k
  pl : w.ownsRow 0 3 1 (.slice (some ⟨X.plb, 0, none⟩) X.ps.length X.pc) X.ps.length (natC X.ps)
  plF : ¬ X.F tv cv X.plb
  hp : p.length = X.np
  parts : w.ownsRow X.B 33 2 (.slice (some ⟨X.pb, 0, none⟩) X.np X.qc) X.np (flat p)
  trail : w.ownsRow X.B 113 3 tv tr.length (flatT tr)
  chs : w.ownsRow X.B 111 3 cv L.length (flatC L.reverse)
  todo : TkAt X.W (X.F tv cv) w rv T
  cs : ChsAt X.W (X.F tv cv) w L C
section
variable {X : Mx} {R : World} {S : List Nat} {w w' : World} {T : List Tk} {p : List (Int × Int)} {tr : List (Nat × (Int × Int))} {C : List Ch} {rv tv cv : Value} {L : List (Value × Nat × Nat)}
theorem MR.mlt (h : MR X R S w T p tr C rv tv cv L) : X.W.heap.size ≤ X.m := Nat.le_trans h.hB h.hm
theorem MR.plt (h : MR X R S w T p tr C rv tv cv L) : X.B ≤ X.pb ∧ X.pb < w.heap.size := World.ownsRow.lt h.parts X.pb rfl
theorem row_kept {row : Option Nat} {base : Nat} {e : TypeId} {size : Nat} {v : Value} {n : Nat} {xs : List Value} (ho : w.ownsRow base e size v n xs) (hg : w.grownBy w' row) (hr : ∀ k, row = some k → v.ownBlock ≠ some k) : w'.ownsRow base e size v n xs := by
  cases hrow : row with
  | none =>
    rw [hrow] at hg
    exact ho.kept (row := none) hg (by cases hv : v.ownBlock with
      | none => exact .inl rfl
      | some k => exact .inr (by simp))
  | some k => rw [hrow] at hg; exact ho.kept hg (.inr (hr k hrow))
theorem bW_gr {W : World} {row : Option Nat} (h : Below W.heap.size W w) (hg : w.grownBy w' row) (hr : ∀ k, row = some k → W.heap.size ≤ k) : Below W.heap.size W w' := bl_grown h hg hr
theorem MR.own {row : Option Nat} (h : MR X R S w T p tr C rv tv cv L) (hg : w.grownBy w' row) (hr : ∀ k, row = some k → k = X.m) : MR X R S w' T p tr C rv tv cv L := by
  have hF : ∀ k, row = some k → X.F tv cv k ∨ w.heap.size ≤ k := fun k hk => .inl (.inl (hr k hk))
  exact { h with
    bW := bW_gr h.bW hg (fun k hk => by rw [hr k hk]; exact h.mlt)
    chg := h.chg.grown hg (fun k hk => by rw [hr k hk]; exact h.im)
    ml := Nat.lt_of_lt_of_le h.ml hg.size
    pl := row_kept h.pl hg (fun k hk e => h.plF (.inl (by rw [hr k hk] at e; injection e)))
    parts := row_kept h.parts hg (fun k hk e => h.mp (by rw [hr k hk] at e; injection e with e; exact e.symm))
    trail := row_kept h.trail hg (fun k hk e => h.mt (by rw [← hr k hk]; exact e))
    chs := row_kept h.chs hg (fun k hk e => h.mc (by rw [← hr k hk]; exact e))
    todo := tk_step h.todo hg hF (fun k hk => .inl hk)
    cs := chs_step hg hF (fun k hk => .inl hk) h.cs }
theorem MR.bl (h : MR X R S w T p tr C rv tv cv L) (hb : Below w.heap.size w w') : MR X R S w' T p tr C rv tv cv L := h.own (gr_bl hb none) (fun k hk => by cases hk)
theorem MR.set (h : MR X R S w T p tr C rv tv cv L) (o : Nat) (u : Value) : MR X R S (w.setCell ⟨X.m, o, none⟩ u) T p tr C rv tv cv L := h.own (gr_set w X.m o u) (fun k hk => by injection hk with hk; exact hk.symm)
theorem MR.re (h : MR X R S w T p tr C rv tv cv L) {T' : List Tk} {rv' : Value} (ht : TkAt X.W (X.F tv cv) w rv' T') : MR X R S w T' p tr C rv' tv cv L := { h with todo := ht }
theorem MR.part (h : MR X R S w T p tr C rv tv cv L) (i : Nat) (hi : i < p.length) (s : Int × Int) :
    MR X R S ((w.setCell ⟨X.pb, i * 2, none⟩ (.int .i64 s.1)).setCell ⟨X.pb, i * 2 + 1, none⟩ (.int .i64 s.2)) T (p.set i s) tr C rv tv cv L := by
  have hg : w.grownBy ((w.setCell ⟨X.pb, i * 2, none⟩ (.int .i64 s.1)).setCell ⟨X.pb, i * 2 + 1, none⟩ (.int .i64 s.2)) (some X.pb) := grown_set (gr_set w X.pb _ _) _ _
  have hF : ∀ k, some X.pb = some k → X.F tv cv k ∨ w.heap.size ≤ k := fun k hk => .inl (.inr (.inl (by injection hk with hk; exact hk.symm)))
  have hpl := h.plt
  exact { h with
    bW := bW_gr h.bW hg (fun k hk => by injection hk with hk; subst hk; exact Nat.le_trans h.hB hpl.1)
    chg := h.chg.grown hg (fun k hk => by injection hk with hk; subst hk; exact h.ip)
    ml := Nat.lt_of_lt_of_le h.ml hg.size
    pl := row_kept h.pl hg (fun k hk e => h.plF (.inr (.inl (by injection hk with hk; injection e with e; exact e.trans hk.symm))))
    hp := by rw [List.length_set]; exact h.hp
    parts := own_putS h.parts i hi s
    trail := row_kept h.trail hg (fun k hk e => h.pt (by rw [hk]; exact e))
    chs := row_kept h.chs hg (fun k hk e => h.pc (by rw [hk]; exact e))
    todo := tk_step h.todo hg hF (fun k hk => .inl hk)
    cs := chs_step hg hF (fun k hk => .inl hk) h.cs }
theorem F_keep (h : MR X R S w T p tr C rv tv cv L) {tv' : Value} (h5 : tv'.ownBlock = tv.ownBlock ∨ ∃ k, tv'.ownBlock = some k ∧ w.heap.size ≤ k) : ∀ k, X.F tv' cv k → X.F tv cv k ∨ w.heap.size ≤ k := fun k hk => by
  rcases hk with hk | hk | hk | hk
  · exact .inl (.inl hk)
  · exact .inl (.inr (.inl hk))
  · rcases h5 with h5 | ⟨k2, h5, h6⟩
    · exact .inl (.inr (.inr (.inl (by rw [← h5]; exact hk))))
    · rw [h5] at hk; injection hk with hk; subst hk; exact .inr h6
  · exact .inl (.inr (.inr (.inr hk)))
theorem F_chs (h : MR X R S w T p tr C rv tv cv L) {cv' : Value} (h5 : cv'.ownBlock = cv.ownBlock ∨ ∃ k, cv'.ownBlock = some k ∧ w.heap.size ≤ k) : ∀ k, X.F tv cv' k → X.F tv cv k ∨ w.heap.size ≤ k := fun k hk => by
  rcases hk with hk | hk | hk | hk
  · exact .inl (.inl hk)
  · exact .inl (.inr (.inl hk))
  · exact .inl (.inr (.inr (.inl hk)))
  · rcases h5 with h5 | ⟨k2, h5, h6⟩
    · exact .inl (.inr (.inr (.inr (by rw [← h5]; exact hk))))
    · rw [h5] at hk; injection hk with hk; subst hk; exact .inr h6
theorem flatT_snoc (tr : List (Nat × (Int × Int))) (e : Nat × (Int × Int)) : flatT (tr ++ [e]) = flatT tr ++ encT e := by simp [flatT]
theorem flatC_snoc (L : List (Value × Nat × Nat)) (e : Value × Nat × Nat) : flatC (e :: L).reverse = flatC L.reverse ++ encC e := by simp [flatC]
theorem MR.keep (h : MR X R S w T p tr C rv tv cv L) {e : Nat × (Int × Int)} {tv' : Value} (ho : w'.ownsRow X.B 113 3 tv' (tr.length + 1) (flatT tr ++ encT e)) (hg : w.grownBy w' tv.ownBlock)
    (h5 : tv'.ownBlock = tv.ownBlock ∨ ∃ k, tv'.ownBlock = some k ∧ w.heap.size ≤ k) : MR X R S w' T p (tr ++ [e]) C rv tv' cv L := by
  have hF : ∀ k, tv.ownBlock = some k → X.F tv cv k ∨ w.heap.size ≤ k := fun k hk => .inl (.inr (.inr (.inl hk)))
  have hge : ∀ k, tv.ownBlock = some k → X.B ≤ k := fun k hk => (World.ownsRow.lt h.trail k hk).1
  have hcl : ∀ k, cv.ownBlock = some k → k < w.heap.size := fun k hk => (World.ownsRow.lt h.chs k hk).2
  have hpl := h.plt
  have hml := h.ml
  have hplb : X.plb < w.heap.size := (World.ownsRow.lt h.pl X.plb rfl).2
  have hFF := F_keep h h5
  exact { h with
    bW := bW_gr h.bW hg (fun k hk => Nat.le_trans h.hB (hge k hk))
    chg := h.chg.grown hg h.it
    ml := Nat.lt_of_lt_of_le h.ml hg.size
    it := fun k hk => by
      rcases h5 with h5 | ⟨k2, h5, h6⟩
      · exact h.it k (by rw [← h5]; exact hk)
      · rw [h5] at hk; injection hk with hk; subst hk; exact .inr (Nat.le_trans h.chg.size h6)
    mt := fun hk => by
      rcases h5 with h5 | ⟨k2, h5, h6⟩
      · exact h.mt (by rw [← h5]; exact hk)
      · rw [h5] at hk; injection hk with hk; omega
    pt := fun hk => by
      rcases h5 with h5 | ⟨k2, h5, h6⟩
      · exact h.pt (by rw [← h5]; exact hk)
      · rw [h5] at hk; injection hk with hk; omega
    tc := fun k hk hk2 => by
      rcases h5 with h5 | ⟨k2, h5, h6⟩
      · exact h.tc k (by rw [← h5]; exact hk) hk2
      · rw [h5] at hk; injection hk with hk; have := hcl _ hk2; omega
    pl := row_kept h.pl hg (fun k hk e => h.plF (.inr (.inr (.inl (by injection e with e; rw [show X.plb = k from e]; exact hk)))))
    plF := fun hk => by
      rcases hFF _ hk with h1 | h1
      · exact h.plF h1
      · omega
    parts := row_kept h.parts hg (fun k hk e => h.pt (by injection e with e; rw [show X.pb = k from e]; exact hk))
    trail := by rw [List.length_append, flatT_snoc]; exact ho
    chs := row_kept h.chs hg (fun k hk e => h.tc k hk e)
    todo := tk_step h.todo hg hF hFF
    cs := chs_step hg hF hFF h.cs }
theorem MR.push (h : MR X R S w T p tr C rv tv cv L) {e : Value × Nat × Nat} {c : Ch} {cv' : Value} (ho : w'.ownsRow X.B 111 3 cv' (L.length + 1) (flatC L.reverse ++ encC e)) (hg : w.grownBy w' cv.ownBlock)
    (h5 : cv'.ownBlock = cv.ownBlock ∨ ∃ k, cv'.ownBlock = some k ∧ w.heap.size ≤ k) (ht : TkAt X.W (X.F tv cv) w e.1 c.todo) (h1 : e.2.1 = c.i) (h2 : e.2.2 = c.k) : MR X R S w' T p tr (c :: C) rv tv cv' (e :: L) := by
  have hF : ∀ k, cv.ownBlock = some k → X.F tv cv k ∨ w.heap.size ≤ k := fun k hk => .inl (.inr (.inr (.inr hk)))
  have hge : ∀ k, cv.ownBlock = some k → X.B ≤ k := fun k hk => (World.ownsRow.lt h.chs k hk).1
  have htl : ∀ k, tv.ownBlock = some k → k < w.heap.size := fun k hk => (World.ownsRow.lt h.trail k hk).2
  have hpl := h.plt
  have hml := h.ml
  have hplb : X.plb < w.heap.size := (World.ownsRow.lt h.pl X.plb rfl).2
  have hFF := F_chs h h5
  exact { h with
    bW := bW_gr h.bW hg (fun k hk => Nat.le_trans h.hB (hge k hk))
    chg := h.chg.grown hg h.ic
    ml := Nat.lt_of_lt_of_le h.ml hg.size
    ic := fun k hk => by
      rcases h5 with h5 | ⟨k2, h5, h6⟩
      · exact h.ic k (by rw [← h5]; exact hk)
      · rw [h5] at hk; injection hk with hk; subst hk; exact .inr (Nat.le_trans h.chg.size h6)
    mc := fun hk => by
      rcases h5 with h5 | ⟨k2, h5, h6⟩
      · exact h.mc (by rw [← h5]; exact hk)
      · rw [h5] at hk; injection hk with hk; omega
    pc := fun hk => by
      rcases h5 with h5 | ⟨k2, h5, h6⟩
      · exact h.pc (by rw [← h5]; exact hk)
      · rw [h5] at hk; injection hk with hk; omega
    tc := fun k hk hk2 => by
      rcases h5 with h5 | ⟨k2, h5, h6⟩
      · exact h.tc k hk (by rw [← h5]; exact hk2)
      · rw [h5] at hk2; injection hk2 with hk2; have := htl _ hk; omega
    pl := row_kept h.pl hg (fun k hk e => h.plF (.inr (.inr (.inr (by injection e with e; rw [show X.plb = k from e]; exact hk)))))
    plF := fun hk => by
      rcases hFF _ hk with h1 | h1
      · exact h.plF h1
      · omega
    parts := row_kept h.parts hg (fun k hk e => h.pc (by injection e with e; rw [show X.pb = k from e]; exact hk))
    trail := row_kept h.trail hg (fun k hk e => h.tc k e hk)
    chs := by rw [List.length_cons, flatC_snoc]; exact ho
    todo := tk_step h.todo hg hF hFF
    cs := ⟨tk_step ht hg hF hFF, h1, h2, chs_step hg hF hFF h.cs⟩ }
end
end Go.Proofs.YtcnliipkfccohabGreat
end
section
namespace Go.Proofs.YtcnliipkfccohabGreat
open Go.ChangeShapes Go.WideShapes Go.ChangeAt Go.RowKit
open SetM SpanM
attribute [local go_sem ↓] Go.wp_at_zero Go.wp_at_succ
set_option maxRecDepth 100000
set_option linter.unusedVariables false
def PtP (A : Nat → Prop) (w : World) (v : Value) (n : Nat) (q : Nat → Nat) : Prop :=
  (v = .slice none 0 0 ∧ n = 0) ∨ ∃ b c, v = .slice (some ⟨b, 0, none⟩) n c ∧ n ≤ c ∧ c ≤ maxLen ∧ A b ∧ ∀ i, i < n → w.cell? ⟨b, i, none⟩ = some (.pointer (some ⟨q i, 0, none⟩))
inductive NdP (W0 : World) (A : Nat → Prop) (w : World) : Nat → Rt → Nat → Prop
  | mk (b : Nat) (x : Rt) (g : Nat) (kv : Value) (q : Nat → Nat) (hA : A b)
      (hc : ∀ j u, (x.cs ++ [kv, .int .i64 ((g : Nat) : Int), .int .i64 ((g + gM x : Nat) : Int)])[j]? = some u → w.cell? ⟨b, j, none⟩ = some u) (hr : RwAt W0 x.rv x.rows)
      (hk : PtP A w kv x.kids.length q) (hs : ∀ i (h : i < x.kids.length), NdP W0 A w (q i) x.kids[i] (kgo x g + gL (x.kids.take i))) : NdP W0 A w b x g
theorem ndp_step {W0 w w' : World} {A A' : Nat → Prop} {b : Nat} {x : Rt} {g : Nat} (h : NdP W0 A w b x g) (hw : ∀ k, A k → w'.heap[k]? = w.heap[k]?) (hA : ∀ k, A k → A' k) : NdP W0 A' w' b x g := by
  induction h with
  | mk b x g kv q ha hc hr hk hs ih =>
    refine .mk b x g kv q (hA b ha) (fun j u hu => by rw [World.cell?_of_block (hw b ha)]; exact hc j u hu) hr ?_ ih
    rcases hk with h | ⟨b2, c, h1, h2, h3, h4, h5⟩
    · exact .inl h
    · exact .inr ⟨b2, c, h1, h2, h3, hA b2 h4, fun i hi => by rw [World.cell?_of_block (hw b2 h4)]; exact h5 i hi⟩
theorem ndp_done {W0 w : World} {A : Nat → Prop} {b : Nat} {x : Rt} {g : Nat} (h : NdP W0 A w b x g) (hb : Below W0.heap.size W0 w) : NdAt w b x g := by
  induction h with
  | mk b x g kv q ha hc hr hk hs ih =>
    refine .mk b x g kv q hc (rwat_below hr hb) ?_ ih
    rcases hk with h | ⟨b2, c, h1, h2, h3, h4, h5⟩
    · exact .inl h
    · exact .inr ⟨b2, c, h1, h2, h3, h5⟩
def ptrs (Q : List Nat) : List Value := Q.map fun b => .pointer (some ⟨b, 0, none⟩)
theorem info_ptr : (Tryz.prog.info? 70).map (fun i => (i.zero, i.size, i.bytes)) = some (some (.pointer none), 1, 8) := by kernel_rfl
theorem own_ptp {A : Nat → Prop} {w : World} {base : Nat} {v : Value} {Q : List Nat} (h : w.ownsRow base 70 1 v Q.length (ptrs Q)) (hA : ∀ k, v.ownBlock = some k → A k) : PtP A w v Q.length (fun i => Q.getD i 0) := by
  rcases own_form h with ⟨rfl, h1, h2⟩ | ⟨g, c, rfl, h1, h2, h3, h4, h5⟩
  · exact .inl ⟨rfl, h1⟩
  · refine .inr ⟨g, c, rfl, h3, h4, hA g rfl, fun i hi => h5 i _ ?_⟩
    unfold ptrs
    show _ = some (Value.pointer (some ⟨Q.getD i 0, 0, none⟩))
    rw [List.getElem?_map, List.getElem?_eq_getElem hi, Option.map_some, List.getD_eq_getElem?_getD, List.getElem?_eq_getElem hi, Option.getD_some]
structure NdInv (W0 : World) (t : Rt) (g : Nat) (w : World) (nb : Nat) (k : Nat) (Q : List Nat) (kv : Value) (wr : World) : Prop where
  len : Q.length = k
  row : wr.ownsRow (nb + 1) 70 1 kv Q.length (ptrs Q)
  nd : ∀ i (h : i < t.kids.length) (hk : i < k), NdP W0 (fun j => w.heap.size ≤ j ∧ j < wr.heap.size ∧ j ≠ nb ∧ kv.ownBlock ≠ some j) wr (Q.getD i 0) t.kids[i] (kgo t g + gL (t.kids.take i))
theorem kinv_step {W0 : World} {t : Rt} {g : Nat} {w : World} {nb k : Nat} {Q : List Nat} {kv kv' : Value} {wr w1 w2 : World} {b q : Nat} (h : NdInv W0 t g w nb k Q kv wr) (hk : k < t.kids.length) (hb : b < w.heap.size) (hw : w.heap.size ≤ nb) (hnb : nb < wr.heap.size)
    (h1 : wr.grownBy w1 (some b)) (hq : NdP W0 (fun j => wr.heap.size ≤ j ∧ j < w1.heap.size) w1 q t.kids[k] (kgo t g + gL (t.kids.take k))) (h2 : w1.grownBy w2 kv.ownBlock)
    (ho : w2.ownsRow (nb + 1) 70 1 kv' (Q.length + 1) (ptrs Q ++ [.pointer (some ⟨q, 0, none⟩)])) (h5 : kv'.ownBlock = kv.ownBlock ∨ ∃ j, kv'.ownBlock = some j ∧ w1.heap.size ≤ j) :
    NdInv W0 t g w nb (k + 1) (Q ++ [q]) kv' w2 := by
  have hkv : ∀ j, kv.ownBlock = some j → nb + 1 ≤ j ∧ j < wr.heap.size := fun j hj => World.ownsRow.lt h.row j hj
  have hs1 := h1.size
  have hs2 := h2.size
  refine ⟨by simp [h.len], by rw [List.length_append]; simpa [ptrs] using ho, fun i hi hik => ?_⟩
  by_cases e : i = k
  · subst e
    rw [List.getD_eq_getElem?_getD, List.getElem?_append_right (by rw [h.len]; exact Nat.le_refl _), h.len, Nat.sub_self]
    refine ndp_step hq (fun j hj => h2.block j hj.2 (fun e => ?_)) (fun j hj => ⟨by omega, by omega, by omega, fun e => ?_⟩)
    · have := hkv j e.symm
      omega
    · rcases h5 with h5 | ⟨j2, h5, h6⟩
      · rw [h5] at e
        have := hkv j e
        omega
      · rw [h5] at e
        injection e with e
        omega
  · have hlt : i < k := by omega
    rw [List.getD_eq_getElem?_getD, List.getElem?_append_left (by rw [h.len]; exact hlt), ← List.getD_eq_getElem?_getD]
    refine ndp_step (h.nd i hi hlt) (fun j hj => ?_) (fun j hj => ⟨hj.1, by omega, hj.2.2.1, fun e => ?_⟩)
    · rw [h2.block j (by omega) (fun e => hj.2.2.2 e.symm), h1.block j hj.2.1 (fun e => by injection e with e; omega)]
    · rcases h5 with h5 | ⟨j2, h5, h6⟩
      · exact hj.2.2.2 (by rw [← h5]; exact e)
      · rw [h5] at e
        injection e with e
        omega
theorem kinv_set {W0 : World} {t : Rt} {g : Nat} {w : World} {nb k : Nat} {Q : List Nat} {kv : Value} {wr : World} (h : NdInv W0 t g w nb k Q kv wr) (o : Nat) (u : Value) : NdInv W0 t g w nb k Q kv (wr.setCell ⟨nb, o, none⟩ u) := by
  have hs : (wr.setCell ⟨nb, o, none⟩ u).heap.size = wr.heap.size := by simp [World.setCell]
  refine ⟨h.len, row_kept h.row (gr_set wr nb o u) (fun k hk e => ?_), fun i hi hik => ndp_step (h.nd i hi hik) (fun j hj => (gr_set wr nb o u).block j hj.2.1 (fun e => ?_)) (fun j hj => by rw [hs]; exact hj)⟩
  · have := (World.ownsRow.lt h.row k e).1
    injection hk with hk
    omega
  · injection e with e
    exact hj.2.2.1 e
def NbPost (W0 : World) (t : Rt) (g : Nat) (w : World) (b : Nat) (e : Ending) (w' : World) : Prop :=
  ∃ nb, e = .returned (.pointer (some ⟨nb, 0, none⟩)) ∧ Cnt w w' b ((g + gM t : Nat) : Int) ∧ NdP W0 (fun k => w.heap.size ≤ k ∧ k < w'.heap.size) w' nb t g
theorem gL_kidle (l : List Rt) (k : Nat) (h : k < l.length) : gL (l.take k) + gM l[k] ≤ gL l := by
  have h1 := gL_snoc l k h
  have h2 : gL l = gL (l.take (k + 1)) + gL (l.drop (k + 1)) := by rw [← gL_app, List.take_append_drop]
  omega
theorem cnt_new {w w' : World} {b nb : Nat} {L : Int} (h : Cnt w w' b L) (hb : b < w.heap.size) (hn : w.heap.size ≤ nb) (o : Nat) (u : Value) : Cnt w (w'.setCell ⟨nb, o, none⟩ u) b L :=
  ⟨⟨h.grown.os, h.grown.tape, h.grown.output, by rw [set_alloc_size]; exact h.grown.size, fun k hk hne => ((gr_set w' nb o u).block k (Nat.lt_of_lt_of_le hk h.grown.size) (fun e => by injection e with e; omega)).trans (h.grown.block k hk hne)⟩,
   cell_gr (gr_set w' nb o u) (fun e => by injection e with e; have e : nb = b := e; omega) h.pos, fun q => by rw [World.frozen?_setCell]; exact h.froz q⟩
theorem cnt_gr {w w' w2 : World} {b : Nat} {L : Int} {row : Option Nat} (h : Cnt w w' b L) (hg : w'.grownBy w2 row) (hr : ∀ k, row = some k → w.heap.size ≤ k) (hb : b < w.heap.size) : Cnt w w2 b L :=
  ⟨⟨hg.os.trans h.grown.os, hg.tape.trans h.grown.tape, hg.output.trans h.grown.output, Nat.le_trans h.grown.size hg.size, fun k hk hne => (hg.block k (Nat.lt_of_lt_of_le hk h.grown.size) (fun e => by have := hr k e.symm; omega)).trans (h.grown.block k hk hne)⟩,
   cell_gr hg (fun e => by have := hr b e; omega) h.pos, fun q => (World.frozen?_of_block (a := ⟨b, q, none⟩) (hg.block b (Nat.lt_of_lt_of_le hb h.grown.size) (fun e => by have := hr b e.symm; omega))).trans (h.froz q)⟩
theorem num_end {W0 : World} {t : Rt} {g : Nat} {w : World} {nb : Nat} {Q : List Nat} {kv : Value} {wr : World} {b G : Nat} {tc : List Value} (hk : NdInv W0 t g w nb t.kids.length Q kv wr) (hc : Cm wr nb (tc ++ [kv, .int .i64 ((g : Nat) : Int), .int .i64 0])) (hcs : t.cs = tc) (hn : Cnt w wr b ((G : Nat) : Int))
    (hG : G = g + gM t) (hb : b < w.heap.size) (hw : w.heap.size ≤ nb) (hr : RwAt W0 t.rv t.rows) :
    Cnt w (wr.setCell ⟨nb, 10, none⟩ (.int .i64 ((G : Nat) : Int))) b ((g + gM t : Nat) : Int) ∧ NdP W0 (fun k => w.heap.size ≤ k ∧ k < (wr.setCell ⟨nb, 10, none⟩ (.int .i64 ((G : Nat) : Int))).heap.size) (wr.setCell ⟨nb, 10, none⟩ (.int .i64 ((G : Nat) : Int))) nb t g := by
  subst hcs
  have h1 := cnt_new hn hb hw 10 (.int .i64 ((G : Nat) : Int))
  have h2 := hc.put 10 (.int .i64 ((G : Nat) : Int))
  have h3 := kinv_set hk 10 (.int .i64 ((G : Nat) : Int))
  have hs := set_alloc_size wr nb 10 (.int .i64 ((G : Nat) : Int))
  have hlt := hc.s
  refine ⟨by rw [← hG]; exact h1, .mk nb t g kv (fun i => Q.getD i 0) ⟨hw, by rw [hs]; exact hlt⟩ (fun j u hu => h2.c j u (by rw [hG]; exact hu)) hr ?_ (fun i hi => ndp_step (h3.nd i hi hi) (fun k _ => rfl) (fun k hk => ⟨hk.1, hk.2.1⟩))⟩
  have h4 := own_ptp (A := fun k => w.heap.size ≤ k ∧ k < (wr.setCell ⟨nb, 10, none⟩ (.int .i64 ((G : Nat) : Int))).heap.size) h3.row (fun k hk => by have := World.ownsRow.lt h3.row k hk; exact ⟨by omega, this.2⟩)
  rw [h3.len] at h4
  exact h4
set_option maxHeartbeats 32000000 in
theorem rxnumber_any {W0 : World} {t : Rt} (h : RxAt W0 t) : sM t ≤ 100000 → ∀ (g : Nat), g + gM t ≤ 200000 → ∀ b w, Below W0.heap.size W0 w → W0.heap.size ≤ b → w.cell? ⟨b, 0, none⟩ = some (.int .i64 ((g : Nat) : Int)) → w.frozen? ⟨b, 0, none⟩ = false →
    Calls Tryz.prog 55 #[t.v, .pointer (some ⟨b, 0, none⟩)] w (NbPost W0 t g w b) := by
  induction h with
  | mk t hr hk hs ih =>
    intro hz g hgg b w hb0 hbb hcb hfb
    have hrx := RxAt.mk t hr hk hs
    obtain ⟨A, c, hkv⟩ := ksat_len hk
    obtain ⟨RA, rc, hrv⟩ := rwat_len hr
    have hv : t.v = .agg #[.int .i64 t.k, .string t.ch, .bool t.nt, .slice RA t.rows.length rc, .int .i64 t.mi, .int .i64 t.ma, .bool t.lz, .slice A t.kids.length c] := by unfold Rt.v Rt.cs; rw [hkv, hrv]
    have HCS := hide (show t.cs = [.int .i64 t.k, .string t.ch, .bool t.nt, .slice RA t.rows.length rc, .int .i64 t.mi, .int .i64 t.ma, .bool t.lz, .slice A t.kids.length c] by unfold Rt.cs; rw [hkv, hrv])
    rw [hv]
    have HGM := hide (show gM t = (if t.k = 5 then 1 else 0) + gL t.kids from gM_eq t)
    have HSM := hide (show t.kids.length ≤ 100000 by have h1 := sM_eq t; have h2 := sL_len t.kids; omega)
    have HIH := hide (fun i hi g2 hg2 W hb hbc hbf => ih i hi (by have := sL_kid t.kids i hi; have := sM_eq t; omega) g2 hg2 b W hb hbb hbc hbf)
    have HK := hide (hkv ▸ hk)
    have HRX := hide hrx
    have HB0 := hide hb0
    have HGG := hide hgg
    have hbl : b < w.heap.size := World.block_lt_of_cell? _ _ hcb
    obtain ⟨i0, hi0, hz0', hz1, hz2⟩ := info_parts info_ptr
    have HR := hide hr
    clear hr hk hs ih hkv hrv hv hrx hz hb0 hgg
    unfold NbPost
    go_enter Tryz.func55, Tryz.ntmps55
    go_wp2
    go_region
    obtain ⟨nb, hnb⟩ : ∃ n, w.heap.size + 1 = n := ⟨_, rfl⟩
    rw [hnb]
    obtain ⟨W1, hW1⟩ : ∃ W, ((w.alloc (.cells #[.int .i64 t.k, .string t.ch, .bool t.nt, .slice RA t.rows.length rc, .int .i64 t.mi, .int .i64 t.ma, .bool t.lz, .slice A t.kids.length c] 25)).alloc (.cells #[.int .i64 t.k, .string t.ch, .bool t.nt, .slice RA t.rows.length rc, .int .i64 t.mi, .int .i64 t.ma, .bool t.lz, .slice A t.kids.length c, .slice none 0 0, .int .i64 ((g : Nat) : Int), .int .i64 0] 105)).drew = W := ⟨_, rfl⟩
    rw [hW1]
    have HBW1 := hide (show Below w.heap.size w W1 by rw [← hW1]; exact bl_drew (bl_alloc (bl_alloc (bl_refl w) _) _))
    have HX := hide (show ∀ j u, ([.int .i64 t.k, .string t.ch, .bool t.nt, .slice RA t.rows.length rc, .int .i64 t.mi, .int .i64 t.ma, .bool t.lz, .slice A t.kids.length c] : List Value)[j]? = some u → W1.cell? ⟨w.heap.size, j, none⟩ = some u from fun j u hu => by rw [← hW1]; exact cell_later (bl_drew (bl_alloc (bl_refl _) _)) (cells_new w _ _ j u hu))
    have HCM1 := hide (show Cm W1 nb [.int .i64 t.k, .string t.ch, .bool t.nt, .slice RA t.rows.length rc, .int .i64 t.mi, .int .i64 t.ma, .bool t.lz, .slice A t.kids.length c, .slice none 0 0, .int .i64 ((g : Nat) : Int), .int .i64 0] by rw [← hW1]; exact (cm_new [.int .i64 t.k, .string t.ch, .bool t.nt, .slice RA t.rows.length rc, .int .i64 t.mi, .int .i64 t.ma, .bool t.lz, .slice A t.kids.length c, .slice none 0 0, .int .i64 ((g : Nat) : Int), .int .i64 0] 105 (by simp; omega)).bl (bl_drew (bl_refl _)))
    clear hW1
    by_cases h5 : t.k = 5
    · have q5 : (t.k == 5) = true := by rw [h5]; rfl
      have HKGO := hide (show kgo t g = g + 1 by unfold kgo; rw [if_pos h5]; try rfl)
      have e1 : IntKind.i64.wrap ((g : Int) + 1) = (g : Int) + 1 := by rw [IntKind.wrap_i64]; have := HGG.out; omega
      have hcb1 : W1.cell? ⟨b, 0, none⟩ = some (.int .i64 ((g : Nat) : Int)) := cell_later HBW1.out hcb
      have hfb1 : W1.frozen? ⟨b, 0, none⟩ = false := (HBW1.out.frozen (p := ⟨b, 0, none⟩) hbl).trans hfb
      have hk0 : W1.cell? ⟨w.heap.size, 0, none⟩ = some (.int .i64 t.k) := HX.out 0 _ rfl
      have hk7 : W1.cell? ⟨w.heap.size, 7, none⟩ = some (.slice A t.kids.length c) := HX.out 7 _ rfl
      go_wp2
      obtain ⟨W2, hW2⟩ : ∃ W, W1.setCell ⟨b, 0, none⟩ (.int .i64 ((g : Int) + 1)) = W := ⟨_, rfl⟩
      rw [hW2]
      have hg2 : W1.grownBy W2 (some b) := by rw [← hW2]; exact gr_set W1 b 0 _
      have hcm := HCM1.out.gr hg2 (by intro e; injection e with e; omega)
      have hcn : Cnt w W2 b ((g + 1 : Nat) : Int) := by
        rw [← hW2]
        have := (cnt_bl HBW1.out hcb).set ((g : Int) + 1)
        simpa using this
      have hfb2 : W2.frozen? ⟨b, 0, none⟩ = false := (hcn.froz 0).trans hfb
      have hx7 : W2.cell? ⟨w.heap.size, 7, none⟩ = some (.slice A t.kids.length c) := cell_gr hg2 (by intro e; injection e with e; have e : b = w.heap.size := e; omega) (HX.out 7 _ rfl)
      have hsz : b < w.heap.size ∧ w.heap.size < nb ∧ nb < W2.heap.size := ⟨hbl, by omega, by have := hcm.s; omega⟩
      clear hW2 hg2 hcb1 hfb1 hk0 HX HCM1
      have H5 := hide h5
      clear h5
      clear hcb
      have HSZ := hide (show b < w.heap.size ∧ w.heap.size < nb ∧ nb < W2.heap.size from hsz)
      have HFB := hide hfb
      have HCM := hide hcm
      have HCN2 := hide hcn
      have f7 : W2.cell? ⟨w.heap.size, 7, none⟩ = some (.slice A t.kids.length c) := hx7
      clear hcm hcn hsz hx7 hfb2 hfb hk7
      go_loopw [25] (fun i wr => ∃ (k : Nat) (Q : List Nat) (kA : Option Addr) (kc G : Nat), i = .int .i64 k ∧ k ≤ t.kids.length ∧ Hid (G = g + 1 + gL (t.kids.take k)) ∧ Hid (Cnt w wr b ((G : Nat) : Int)) ∧ Hid (Cm wr nb [.int .i64 t.k, .string t.ch, .bool t.nt, .slice RA t.rows.length rc, .int .i64 t.mi, .int .i64 t.ma, .bool t.lz, .slice A t.kids.length c, .slice kA Q.length kc, .int .i64 ((g : Nat) : Int), .int .i64 0]) ∧ Hid (NdInv W0 t g w nb k Q (.slice kA Q.length kc) wr)) (fun i _ => t.kids.length - (intOf i).toNat)
      case atStart =>
        exact ⟨0, [], none, 0, g + 1, rfl, Nat.zero_le _, hide (by simp [gL]), HCN2, HCM, hide ⟨rfl, ⟨rfl, .inl ⟨rfl, rfl⟩⟩, fun i hi hk => absurd hk (Nat.not_lt_zero _)⟩⟩
      case round =>
        obtain ⟨k, Q, kA, kc, G, rfl, hk, HG, HCN, HCR, HKI⟩ := hrel
        clear HCN2 HCM f7
        by_cases hlt : k < t.kids.length
        case neg =>
          obtain rfl : k = t.kids.length := by omega
          have gl : decide ((t.kids.length : Int) < (t.kids.length : Int)) = false := by simp
          have gl' : decide (t.kids.length < t.kids.length) = false := by simp
          have cb := HCN.out.pos
          have q10 := HCR.out.c 10 _ rfl
          have fr10 := HCR.out.f 10
          have HEND := hide (num_end HKI.out HCR.out HCS.out HCN.out (by have := HGM.out; have h8 := HG.out; have h9 : t.kids.take t.kids.length = t.kids := List.take_length; rw [h9] at h8; rw [if_pos H5.out] at this; omega) HSZ.out.1 (Nat.le_of_lt HSZ.out.2.1) HR.out)
          clear hlt
          go_wp2
          go_ret
          exact ⟨nb, rfl, HEND.out⟩
        have HBW := hide (HCN.out.below HB0.out hbb)
        obtain ⟨b1, o1, c1, hv1, hc1, hm1, hlb1, hcell⟩ := ksat_8 (ksat_below HK.out HBW.out) (by omega)
        injection hv1 with hv1 _ hv1c
        subst hv1 hv1c
        unfold maxLen at hm1
        obtain ⟨x0, x1, x2, x3, x4, x5, x6, x7⟩ := hcell k hlt
        have HC := fun W hb hbc hbf => HIH.out k hlt G (by have := gL_kidle t.kids k hlt; have := HGG.out; have := HG.out; have := HGM.out; rw [if_pos H5.out] at this; omega) W hb hbc hbf
        have hrx := HRX.out.kid k hlt
        have HSTEP := hide (fun (w1 w2 : World) (q : Nat) (kv' : Value) (h1 : wr.grownBy w1 (some b)) (hq : NdP W0 (fun j => wr.heap.size ≤ j ∧ j < w1.heap.size) w1 q t.kids[k] G) (h2 : w1.grownBy w2 (Value.slice kA Q.length kc).ownBlock) ho h5 => kinv_step (kv' := kv') HKI.out hlt HSZ.out.1 (Nat.le_of_lt HSZ.out.2.1) (show nb < wr.heap.size from HCR.out.s) h1 (by rw [show kgo t g = g + 1 from HKGO.out, ← HG.out]; exact hq) h2 ho h5)
        have HGS := hide (gL_snoc t.kids k hlt)
        clear hcell
        obtain ⟨d, hd⟩ : ∃ d, t.kids[k] = d := ⟨_, rfl⟩
        rw [hd] at HC
        rw [hd] at hrx
        rw [hd] at HGS
        rw [hd] at HSTEP
        rw [hd] at x0 x1 x2 x3 x4 x5 x6 x7
        obtain ⟨rA, rc2, hrv⟩ := rwat_len hrx.rows
        obtain ⟨kA2, kc2, hkv⟩ := ksat_len hrx.ks
        rw [hrv] at x3
        rw [hkv] at x7
        have HC2 := hide HC
        unfold Rt.v Rt.cs NbPost at HC2
        rw [hrv, hkv] at HC2
        have gl : decide ((k : Int) < (t.kids.length : Int)) = true := decide_eq_true (by omega)
        have gl' : decide (k < t.kids.length) = true := decide_eq_true hlt
        have e5 : IntKind.i64.wrap ((k : Int) + 1) = (k : Int) + 1 := by rw [IntKind.wrap_i64]; have := HSM.out; omega
        have i1 : (0 : Int) ≤ (k : Int) := by omega
        have i2 : (k : Int) < (t.kids.length : Int) := by omega
        have HK1 := hide (show k + 1 ≤ t.kids.length by omega)
        clear hd HC hrx hrv hkv
        obtain ⟨WA, hWA⟩ : ∃ W, wr.alloc (.cells #[.int .i64 d.k, .string d.ch, .bool d.nt, .slice rA d.rows.length rc2, .int .i64 d.mi, .int .i64 d.ma, .bool d.lz, .slice kA2 d.kids.length kc2] 25) = W := ⟨_, rfl⟩
        have hba : Below wr.heap.size wr WA := by rw [← hWA]; exact bl_alloc (bl_refl wr) _
        have hsW : WA.heap.size = wr.heap.size + 1 := by rw [← hWA]; simp
        obtain ⟨kb, hkb⟩ : ∃ n, wr.heap.size = n := ⟨_, rfl⟩
        have hdc : ∀ j u, ([.int .i64 d.k, .string d.ch, .bool d.nt, .slice rA d.rows.length rc2, .int .i64 d.mi, .int .i64 d.ma, .bool d.lz, .slice kA2 d.kids.length kc2] : List Value)[j]? = some u → WA.cell? ⟨kb, j, none⟩ = some u := by rw [← hWA, ← hkb]; exact cells_new wr _ _
        have y0 := hdc 0 _ rfl
        have y1 := hdc 1 _ rfl
        have y2 := hdc 2 _ rfl
        have y3 := hdc 3 _ rfl
        have y4 := hdc 4 _ rfl
        have y5 := hdc 5 _ rfl
        have y6 := hdc 6 _ rfl
        have y7 := hdc 7 _ rfl
        have HCA := hide (HCN.out.bl hba)
        have HBA2 := hide (bl_trans HBW.out hba)
        have HCRA := hide (HCR.out.bl hba)
        have y8 : WA.cell? ⟨nb, 8, none⟩ = some (.slice kA Q.length kc) := HCRA.out.c 8 _ rfl
        have HBA3 := hide hba
        have HKB := hide (show kb < WA.heap.size ∧ nb < kb ∧ b < nb ∧ wr.heap.size = kb by have := HCR.out.s; have := HSZ.out; omega)
        have HKEEP := hide (fun (Wa Wb : World) (row : Option Nat) (hg : Wa.grownBy Wb row) (hn : row ≠ some nb) (hk : row ≠ some kb) (h : Wa.cell? ⟨nb, 8, none⟩ = some (.slice kA Q.length kc) ∧ Wa.cell? ⟨kb, 0, none⟩ = some (.int .i64 d.k) ∧ Wa.cell? ⟨kb, 1, none⟩ = some (.string d.ch) ∧ Wa.cell? ⟨kb, 2, none⟩ = some (.bool d.nt) ∧ Wa.cell? ⟨kb, 3, none⟩ = some (.slice rA d.rows.length rc2) ∧ Wa.cell? ⟨kb, 4, none⟩ = some (.int .i64 d.mi) ∧ Wa.cell? ⟨kb, 5, none⟩ = some (.int .i64 d.ma) ∧ Wa.cell? ⟨kb, 6, none⟩ = some (.bool d.lz) ∧ Wa.cell? ⟨kb, 7, none⟩ = some (.slice kA2 d.kids.length kc2)) => (show Wb.cell? ⟨nb, 8, none⟩ = some (.slice kA Q.length kc) ∧ Wb.cell? ⟨kb, 0, none⟩ = some (.int .i64 d.k) ∧ Wb.cell? ⟨kb, 1, none⟩ = some (.string d.ch) ∧ Wb.cell? ⟨kb, 2, none⟩ = some (.bool d.nt) ∧ Wb.cell? ⟨kb, 3, none⟩ = some (.slice rA d.rows.length rc2) ∧ Wb.cell? ⟨kb, 4, none⟩ = some (.int .i64 d.mi) ∧ Wb.cell? ⟨kb, 5, none⟩ = some (.int .i64 d.ma) ∧ Wb.cell? ⟨kb, 6, none⟩ = some (.bool d.lz) ∧ Wb.cell? ⟨kb, 7, none⟩ = some (.slice kA2 d.kids.length kc2) from ⟨cell_gr hg hn h.1, cell_gr hg hk h.2.1, cell_gr hg hk h.2.2.1, cell_gr hg hk h.2.2.2.1, cell_gr hg hk h.2.2.2.2.1, cell_gr hg hk h.2.2.2.2.2.1, cell_gr hg hk h.2.2.2.2.2.2.1, cell_gr hg hk h.2.2.2.2.2.2.2.1, cell_gr hg hk h.2.2.2.2.2.2.2.2⟩))
        have HRO := hide HKI.out.row
        have HQL := hide HKI.out.len
        clear hba hdc
        go_wp2_with fail
        have HSA := hide (HKEEP.out WA WA.drew none (grown_drew (grown_refl WA none)) (by simp) (by simp) ⟨y8, y0, y1, y2, y3, y4, y5, y6, y7⟩)
        go_region_law (first
            | (refine step_src5 _ (by rfl) (.tmp 33) (.tmp 37) 103 (by rfl) (nb + 1) 70 i0 (.pointer none) 1 8 Tryz.underlying103 hi0 hz0' hz1 hz2 rfl (by decide) (.slice kA Q.length kc) Q.length (ptrs Q) (by rfl) (own_below hro2 (bl_alloc (bl_refl _) _)) (some ⟨_, 0, none⟩) 1 1 [.pointer (some ⟨q, 0, none⟩)] (by rfl) (src_block (cs := #[.pointer (some ⟨q, 0, none⟩)]) (heap_new (by simp)) rfl) (by simp [Value.oneCell']) (by have := HQL.out; have := HSM.out; omega) (by decide) (by have := HKB.out; simp at hsz2 ⊢; omega) ?_; intro v4 w4 hv4 hg4 h54; obtain ⟨A4, c4, rfl⟩ := own_slice hv4; have hS4 := HKEEP.out _ _ _ hg4 (by intro e; have := (World.ownsRow.lt hro2 _ e).1; omega) (by intro e; have := (World.ownsRow.lt HRO.out _ e).2; have := HKB.out; omega) ⟨al_blk z8, al_blk z0, al_blk z1, al_blk z2, al_blk z3, al_blk z4, al_blk z5, al_blk z6, al_blk z7⟩; obtain ⟨t8, t0, t1, t2, t3, t4, t5, t6, t7⟩ := hS4; have hcm4 := (hcm2.bl (bl_alloc (bl_refl _) _)).gr hg4 (by intro e; have := (World.ownsRow.lt hro2 _ e).1; omega); have f8 := hcm4.f 8; have lt8 := hcm4.s)
            | (go_simp; go_at_call 55; refine (HC2.out _ (bl_drew HBA2.out) ((HCA.out.bl (bl_drew (bl_refl _))).pos) (((HCA.out.bl (bl_drew (bl_refl _))).froz 0).trans HFB.out)).mono ?_; rintro e w2 ⟨q, rfl, hcn2, hnd⟩; have hS2 := HKEEP.out _ _ _ hcn2.grown (by intro e; injection e with e; have := HKB.out; omega) (by intro e; injection e with e; have := HKB.out; omega) HSA.out; obtain ⟨z8, z0, z1, z2, z3, z4, z5, z6, z7⟩ := hS2; have hro2 := row_kept (own_below HRO.out (bl_drew HBA3.out)) hcn2.grown (fun j hj e => by injection hj with hj; have := (World.ownsRow.lt HRO.out j e).1; have := HKB.out; omega); have hsz2 := hcn2.grown.size; have hcm2 := (HCRA.out.gr (grown_drew (grown_refl WA none)) (by simp)).gr hcn2.grown (by intro e; injection e with e; have := HKB.out; omega); have lt2 := hcm2.s; have lt3 : kb < w2.heap.size := World.block_lt_of_cell? _ _ z0))
        all_goals
          clear t8 t0 t1 t2 t3 t4 t5 t6 t7 z8 z0 z1 z2 z3 z4 z5 z6 z7 x0 x1 x2 x3 x4 x5 x6 x7
          have h1 : wr.grownBy (w2.alloc (.cells #[.pointer (some ⟨q, 0, none⟩)] 70)) (some b) := World.grownBy.trans (gr_bl (bl_drew HBA3.out) (some b)) (World.grownBy.trans hcn2.grown (gr_bl (bl_alloc (bl_refl _) _) (some b)))
          have hq2 : NdP W0 (fun j => wr.heap.size ≤ j ∧ j < (w2.alloc (.cells #[.pointer (some ⟨q, 0, none⟩)] 70)).heap.size) (w2.alloc (.cells #[.pointer (some ⟨q, 0, none⟩)] 70)) q d G := ndp_step hnd (fun j hj => (bl_alloc (bl_refl w2) _).block j hj.2) (fun j hj => ⟨by have h8 := hj.1; have h9 : WA.drew.heap.size = WA.heap.size := rfl; have := HKB.out; omega, by have := hj.2; simp; omega⟩)
          have HK4 := hide (kinv_set (HSTEP.out _ _ q _ h1 hq2 hg4 hv4 h54) 8 (.slice A4 (Q.length + 1) c4))
          have HG2 := hide (show G + gM d = g + 1 + gL (t.kids.take (k + 1)) by have := HG.out; have := HGS.out; omega)
          have hcn4 := cnt_gr (((HCA.out.bl (bl_drew (bl_refl _))).trans hcn2).bl (bl_alloc (bl_refl _) _)) hg4 (fun j hj => by have := (World.ownsRow.lt HRO.out j hj).1; have := HSZ.out; omega) HSZ.out.1
          have HCN4 := hide (cnt_new hcn4 HSZ.out.1 (Nat.le_of_lt HSZ.out.2.1) 8 (.slice A4 (Q.length + 1) c4))
          have HCM4 := hide (hcm4.put 8 (.slice A4 (Q.length + 1) c4))
          have HQ1 := hide (show (Q ++ [q]).length = Q.length + 1 by simp)
          clear h1 hq2 hcn4 hcm4 hg4 hv4 h54 hcn2 hnd hro2 hcm2 HSTEP HKEEP HC2 y0 y1 y2 y3 y4 y5 y6 y7 y8
          go_wp2
          refine ⟨?_, by first | (simp [intOf]; done) | (simp [intOf]; omega)⟩
          first
            | exact ⟨k + 1, Q ++ [q], A4, c4, G + gM d, by go_num, HK1.out, HG2, HCN4, by rw [HQ1.out]; exact HCM4, by rw [HQ1.out]; exact HK4⟩
            | ((repeat apply Exists.intro); exact ⟨⟨k + 1, Q ++ [q], A4, c4, G + gM d, by go_num, HK1.out, HG2, HCN4, by rw [HQ1.out]; exact HCM4, by rw [HQ1.out]; exact HK4⟩, rfl⟩)
    · have q5 : (t.k == 5) = false := beq_eq_false_iff_ne.2 h5
      have HKGO := hide (show kgo t g = g + 0 by unfold kgo; rw [if_neg h5]; try rfl)
      have hk0 : W1.cell? ⟨w.heap.size, 0, none⟩ = some (.int .i64 t.k) := HX.out 0 _ rfl
      have hcm := HCM1.out
      have hcn : Cnt w W1 b ((g + 0 : Nat) : Int) := cnt_bl HBW1.out hcb
      have hfb2 : W1.frozen? ⟨b, 0, none⟩ = false := (hcn.froz 0).trans hfb
      have hx7 : W1.cell? ⟨w.heap.size, 7, none⟩ = some (.slice A t.kids.length c) := HX.out 7 _ rfl
      have hsz : b < w.heap.size ∧ w.heap.size < nb ∧ nb < W1.heap.size := ⟨hbl, by omega, by have := hcm.s; omega⟩
      have H5 := hide h5
      clear h5
      clear hcb
      have HSZ := hide (show b < w.heap.size ∧ w.heap.size < nb ∧ nb < W1.heap.size from hsz)
      have HFB := hide hfb
      have HCM := hide hcm
      have HCN2 := hide hcn
      have f7 : W1.cell? ⟨w.heap.size, 7, none⟩ = some (.slice A t.kids.length c) := hx7
      clear hcm hcn hsz hx7 hfb2 hfb
      go_wp2
      go_loopw [25] (fun i wr => ∃ (k : Nat) (Q : List Nat) (kA : Option Addr) (kc G : Nat), i = .int .i64 k ∧ k ≤ t.kids.length ∧ Hid (G = g + 0 + gL (t.kids.take k)) ∧ Hid (Cnt w wr b ((G : Nat) : Int)) ∧ Hid (Cm wr nb [.int .i64 t.k, .string t.ch, .bool t.nt, .slice RA t.rows.length rc, .int .i64 t.mi, .int .i64 t.ma, .bool t.lz, .slice A t.kids.length c, .slice kA Q.length kc, .int .i64 ((g : Nat) : Int), .int .i64 0]) ∧ Hid (NdInv W0 t g w nb k Q (.slice kA Q.length kc) wr)) (fun i _ => t.kids.length - (intOf i).toNat)
      case atStart =>
        exact ⟨0, [], none, 0, g + 0, rfl, Nat.zero_le _, hide (by simp [gL]), HCN2, HCM, hide ⟨rfl, ⟨rfl, .inl ⟨rfl, rfl⟩⟩, fun i hi hk => absurd hk (Nat.not_lt_zero _)⟩⟩
      case round =>
        obtain ⟨k, Q, kA, kc, G, rfl, hk, HG, HCN, HCR, HKI⟩ := hrel
        clear HCN2 HCM f7
        by_cases hlt : k < t.kids.length
        case neg =>
          obtain rfl : k = t.kids.length := by omega
          have gl : decide ((t.kids.length : Int) < (t.kids.length : Int)) = false := by simp
          have gl' : decide (t.kids.length < t.kids.length) = false := by simp
          have cb := HCN.out.pos
          have q10 := HCR.out.c 10 _ rfl
          have fr10 := HCR.out.f 10
          have HEND := hide (num_end HKI.out HCR.out HCS.out HCN.out (by have := HGM.out; have h8 := HG.out; have h9 : t.kids.take t.kids.length = t.kids := List.take_length; rw [h9] at h8; rw [if_neg H5.out] at this; omega) HSZ.out.1 (Nat.le_of_lt HSZ.out.2.1) HR.out)
          clear hlt
          go_wp2
          go_ret
          exact ⟨nb, rfl, HEND.out⟩
        have HBW := hide (HCN.out.below HB0.out hbb)
        obtain ⟨b1, o1, c1, hv1, hc1, hm1, hlb1, hcell⟩ := ksat_8 (ksat_below HK.out HBW.out) (by omega)
        injection hv1 with hv1 _ hv1c
        subst hv1 hv1c
        unfold maxLen at hm1
        obtain ⟨x0, x1, x2, x3, x4, x5, x6, x7⟩ := hcell k hlt
        have HC := fun W hb hbc hbf => HIH.out k hlt G (by have := gL_kidle t.kids k hlt; have := HGG.out; have := HG.out; have := HGM.out; rw [if_neg H5.out] at this; omega) W hb hbc hbf
        have hrx := HRX.out.kid k hlt
        have HSTEP := hide (fun (w1 w2 : World) (q : Nat) (kv' : Value) (h1 : wr.grownBy w1 (some b)) (hq : NdP W0 (fun j => wr.heap.size ≤ j ∧ j < w1.heap.size) w1 q t.kids[k] G) (h2 : w1.grownBy w2 (Value.slice kA Q.length kc).ownBlock) ho h5 => kinv_step (kv' := kv') HKI.out hlt HSZ.out.1 (Nat.le_of_lt HSZ.out.2.1) (show nb < wr.heap.size from HCR.out.s) h1 (by rw [show kgo t g = g + 0 from HKGO.out, ← HG.out]; exact hq) h2 ho h5)
        have HGS := hide (gL_snoc t.kids k hlt)
        clear hcell
        obtain ⟨d, hd⟩ : ∃ d, t.kids[k] = d := ⟨_, rfl⟩
        rw [hd] at HC
        rw [hd] at hrx
        rw [hd] at HGS
        rw [hd] at HSTEP
        rw [hd] at x0 x1 x2 x3 x4 x5 x6 x7
        obtain ⟨rA, rc2, hrv⟩ := rwat_len hrx.rows
        obtain ⟨kA2, kc2, hkv⟩ := ksat_len hrx.ks
        rw [hrv] at x3
        rw [hkv] at x7
        have HC2 := hide HC
        unfold Rt.v Rt.cs NbPost at HC2
        rw [hrv, hkv] at HC2
        have gl : decide ((k : Int) < (t.kids.length : Int)) = true := decide_eq_true (by omega)
        have gl' : decide (k < t.kids.length) = true := decide_eq_true hlt
        have e5 : IntKind.i64.wrap ((k : Int) + 1) = (k : Int) + 1 := by rw [IntKind.wrap_i64]; have := HSM.out; omega
        have i1 : (0 : Int) ≤ (k : Int) := by omega
        have i2 : (k : Int) < (t.kids.length : Int) := by omega
        have HK1 := hide (show k + 1 ≤ t.kids.length by omega)
        clear hd HC hrx hrv hkv
        obtain ⟨WA, hWA⟩ : ∃ W, wr.alloc (.cells #[.int .i64 d.k, .string d.ch, .bool d.nt, .slice rA d.rows.length rc2, .int .i64 d.mi, .int .i64 d.ma, .bool d.lz, .slice kA2 d.kids.length kc2] 25) = W := ⟨_, rfl⟩
        have hba : Below wr.heap.size wr WA := by rw [← hWA]; exact bl_alloc (bl_refl wr) _
        have hsW : WA.heap.size = wr.heap.size + 1 := by rw [← hWA]; simp
        obtain ⟨kb, hkb⟩ : ∃ n, wr.heap.size = n := ⟨_, rfl⟩
        have hdc : ∀ j u, ([.int .i64 d.k, .string d.ch, .bool d.nt, .slice rA d.rows.length rc2, .int .i64 d.mi, .int .i64 d.ma, .bool d.lz, .slice kA2 d.kids.length kc2] : List Value)[j]? = some u → WA.cell? ⟨kb, j, none⟩ = some u := by rw [← hWA, ← hkb]; exact cells_new wr _ _
        have y0 := hdc 0 _ rfl
        have y1 := hdc 1 _ rfl
        have y2 := hdc 2 _ rfl
        have y3 := hdc 3 _ rfl
        have y4 := hdc 4 _ rfl
        have y5 := hdc 5 _ rfl
        have y6 := hdc 6 _ rfl
        have y7 := hdc 7 _ rfl
        have HCA := hide (HCN.out.bl hba)
        have HBA2 := hide (bl_trans HBW.out hba)
        have HCRA := hide (HCR.out.bl hba)
        have y8 : WA.cell? ⟨nb, 8, none⟩ = some (.slice kA Q.length kc) := HCRA.out.c 8 _ rfl
        have HBA3 := hide hba
        have HKB := hide (show kb < WA.heap.size ∧ nb < kb ∧ b < nb ∧ wr.heap.size = kb by have := HCR.out.s; have := HSZ.out; omega)
        have HKEEP := hide (fun (Wa Wb : World) (row : Option Nat) (hg : Wa.grownBy Wb row) (hn : row ≠ some nb) (hk : row ≠ some kb) (h : Wa.cell? ⟨nb, 8, none⟩ = some (.slice kA Q.length kc) ∧ Wa.cell? ⟨kb, 0, none⟩ = some (.int .i64 d.k) ∧ Wa.cell? ⟨kb, 1, none⟩ = some (.string d.ch) ∧ Wa.cell? ⟨kb, 2, none⟩ = some (.bool d.nt) ∧ Wa.cell? ⟨kb, 3, none⟩ = some (.slice rA d.rows.length rc2) ∧ Wa.cell? ⟨kb, 4, none⟩ = some (.int .i64 d.mi) ∧ Wa.cell? ⟨kb, 5, none⟩ = some (.int .i64 d.ma) ∧ Wa.cell? ⟨kb, 6, none⟩ = some (.bool d.lz) ∧ Wa.cell? ⟨kb, 7, none⟩ = some (.slice kA2 d.kids.length kc2)) => (show Wb.cell? ⟨nb, 8, none⟩ = some (.slice kA Q.length kc) ∧ Wb.cell? ⟨kb, 0, none⟩ = some (.int .i64 d.k) ∧ Wb.cell? ⟨kb, 1, none⟩ = some (.string d.ch) ∧ Wb.cell? ⟨kb, 2, none⟩ = some (.bool d.nt) ∧ Wb.cell? ⟨kb, 3, none⟩ = some (.slice rA d.rows.length rc2) ∧ Wb.cell? ⟨kb, 4, none⟩ = some (.int .i64 d.mi) ∧ Wb.cell? ⟨kb, 5, none⟩ = some (.int .i64 d.ma) ∧ Wb.cell? ⟨kb, 6, none⟩ = some (.bool d.lz) ∧ Wb.cell? ⟨kb, 7, none⟩ = some (.slice kA2 d.kids.length kc2) from ⟨cell_gr hg hn h.1, cell_gr hg hk h.2.1, cell_gr hg hk h.2.2.1, cell_gr hg hk h.2.2.2.1, cell_gr hg hk h.2.2.2.2.1, cell_gr hg hk h.2.2.2.2.2.1, cell_gr hg hk h.2.2.2.2.2.2.1, cell_gr hg hk h.2.2.2.2.2.2.2.1, cell_gr hg hk h.2.2.2.2.2.2.2.2⟩))
        have HRO := hide HKI.out.row
        have HQL := hide HKI.out.len
        clear hba hdc
        go_wp2_with fail
        have HSA := hide (HKEEP.out WA WA.drew none (grown_drew (grown_refl WA none)) (by simp) (by simp) ⟨y8, y0, y1, y2, y3, y4, y5, y6, y7⟩)
        go_region_law (first
            | (refine step_src5 _ (by rfl) (.tmp 33) (.tmp 37) 103 (by rfl) (nb + 1) 70 i0 (.pointer none) 1 8 Tryz.underlying103 hi0 hz0' hz1 hz2 rfl (by decide) (.slice kA Q.length kc) Q.length (ptrs Q) (by rfl) (own_below hro2 (bl_alloc (bl_refl _) _)) (some ⟨_, 0, none⟩) 1 1 [.pointer (some ⟨q, 0, none⟩)] (by rfl) (src_block (cs := #[.pointer (some ⟨q, 0, none⟩)]) (heap_new (by simp)) rfl) (by simp [Value.oneCell']) (by have := HQL.out; have := HSM.out; omega) (by decide) (by have := HKB.out; simp at hsz2 ⊢; omega) ?_; intro v4 w4 hv4 hg4 h54; obtain ⟨A4, c4, rfl⟩ := own_slice hv4; have hS4 := HKEEP.out _ _ _ hg4 (by intro e; have := (World.ownsRow.lt hro2 _ e).1; omega) (by intro e; have := (World.ownsRow.lt HRO.out _ e).2; have := HKB.out; omega) ⟨al_blk z8, al_blk z0, al_blk z1, al_blk z2, al_blk z3, al_blk z4, al_blk z5, al_blk z6, al_blk z7⟩; obtain ⟨t8, t0, t1, t2, t3, t4, t5, t6, t7⟩ := hS4; have hcm4 := (hcm2.bl (bl_alloc (bl_refl _) _)).gr hg4 (by intro e; have := (World.ownsRow.lt hro2 _ e).1; omega); have f8 := hcm4.f 8; have lt8 := hcm4.s)
            | (go_simp; go_at_call 55; refine (HC2.out _ (bl_drew HBA2.out) ((HCA.out.bl (bl_drew (bl_refl _))).pos) (((HCA.out.bl (bl_drew (bl_refl _))).froz 0).trans HFB.out)).mono ?_; rintro e w2 ⟨q, rfl, hcn2, hnd⟩; have hS2 := HKEEP.out _ _ _ hcn2.grown (by intro e; injection e with e; have := HKB.out; omega) (by intro e; injection e with e; have := HKB.out; omega) HSA.out; obtain ⟨z8, z0, z1, z2, z3, z4, z5, z6, z7⟩ := hS2; have hro2 := row_kept (own_below HRO.out (bl_drew HBA3.out)) hcn2.grown (fun j hj e => by injection hj with hj; have := (World.ownsRow.lt HRO.out j e).1; have := HKB.out; omega); have hsz2 := hcn2.grown.size; have hcm2 := (HCRA.out.gr (grown_drew (grown_refl WA none)) (by simp)).gr hcn2.grown (by intro e; injection e with e; have := HKB.out; omega); have lt2 := hcm2.s; have lt3 : kb < w2.heap.size := World.block_lt_of_cell? _ _ z0))
        all_goals
          clear t8 t0 t1 t2 t3 t4 t5 t6 t7 z8 z0 z1 z2 z3 z4 z5 z6 z7 x0 x1 x2 x3 x4 x5 x6 x7
          have h1 : wr.grownBy (w2.alloc (.cells #[.pointer (some ⟨q, 0, none⟩)] 70)) (some b) := World.grownBy.trans (gr_bl (bl_drew HBA3.out) (some b)) (World.grownBy.trans hcn2.grown (gr_bl (bl_alloc (bl_refl _) _) (some b)))
          have hq2 : NdP W0 (fun j => wr.heap.size ≤ j ∧ j < (w2.alloc (.cells #[.pointer (some ⟨q, 0, none⟩)] 70)).heap.size) (w2.alloc (.cells #[.pointer (some ⟨q, 0, none⟩)] 70)) q d G := ndp_step hnd (fun j hj => (bl_alloc (bl_refl w2) _).block j hj.2) (fun j hj => ⟨by have h8 := hj.1; have h9 : WA.drew.heap.size = WA.heap.size := rfl; have := HKB.out; omega, by have := hj.2; simp; omega⟩)
          have HK4 := hide (kinv_set (HSTEP.out _ _ q _ h1 hq2 hg4 hv4 h54) 8 (.slice A4 (Q.length + 1) c4))
          have HG2 := hide (show G + gM d = g + 0 + gL (t.kids.take (k + 1)) by have := HG.out; have := HGS.out; omega)
          have hcn4 := cnt_gr (((HCA.out.bl (bl_drew (bl_refl _))).trans hcn2).bl (bl_alloc (bl_refl _) _)) hg4 (fun j hj => by have := (World.ownsRow.lt HRO.out j hj).1; have := HSZ.out; omega) HSZ.out.1
          have HCN4 := hide (cnt_new hcn4 HSZ.out.1 (Nat.le_of_lt HSZ.out.2.1) 8 (.slice A4 (Q.length + 1) c4))
          have HCM4 := hide (hcm4.put 8 (.slice A4 (Q.length + 1) c4))
          have HQ1 := hide (show (Q ++ [q]).length = Q.length + 1 by simp)
          clear h1 hq2 hcn4 hcm4 hg4 hv4 h54 hcn2 hnd hro2 hcm2 HSTEP HKEEP HC2 y0 y1 y2 y3 y4 y5 y6 y7 y8
          go_wp2
          refine ⟨?_, by first | (simp [intOf]; done) | (simp [intOf]; omega)⟩
          first
            | exact ⟨k + 1, Q ++ [q], A4, c4, G + gM d, by go_num, HK1.out, HG2, HCN4, by rw [HQ1.out]; exact HCM4, by rw [HQ1.out]; exact HK4⟩
            | ((repeat apply Exists.intro); exact ⟨⟨k + 1, Q ++ [q], A4, c4, G + gM d, by go_num, HK1.out, HG2, HCN4, by rw [HQ1.out]; exact HCM4, by rw [HQ1.out]; exact HK4⟩, rfl⟩)
end Go.Proofs.YtcnliipkfccohabGreat
end
section
namespace Go.Proofs.YtcnliipkfccohabGreat
open Go.ChangeShapes Go.WideShapes Go.ChangeAt Go.RowKit
open SetM SpanM
attribute [local go_sem ↓] Go.wp_at_zero Go.wp_at_succ
set_option maxRecDepth 100000
set_option linter.unusedVariables false
def MP (X : Mx) (R : World) (S : List Nat) (s : Ms) (w : World) : Prop :=
  ∃ rv tv cv L, MR X R S w s.todo s.p s.tr s.C rv tv cv L ∧ Cm w X.m (X.cs s.f s.i rv tv cv)
section
variable {X : Mx} {R : World} {S : List Nat} {w w' : World} {T : List Tk} {p : List (Int × Int)} {tr : List (Nat × (Int × Int))} {C : List Ch} {rv tv cv : Value} {L : List (Value × Nat × Nat)}
theorem MR.Flt (h : MR X R S w T p tr C rv tv cv L) : ∀ k, X.F tv cv k → k < w.heap.size := fun k hk => by
  rcases hk with hk | hk | hk | hk
  · rw [hk]; exact h.ml
  · rw [hk]; exact h.plt.2
  · exact (World.ownsRow.lt h.trail k hk).2
  · exact (World.ownsRow.lt h.chs k hk).2
theorem tk_ptr {W : World} {F : Nat → Prop} (h : TkAt W F w rv T) : ∃ a, rv = .pointer a := by
  cases h with
  | nil => exact ⟨_, rfl⟩
  | cons b => exact ⟨_, rfl⟩
theorem mp_task (h : MR X R S w T p tr C rv tv cv L) {t : Tk} {wh : Int} {q : Nat} {n fr : Int} (ht : TwAt X.W t wh q n fr) (ty : TypeId) :
    TkAt X.W (X.F tv cv) (w.alloc (.cells #[.int .i64 wh, .pointer (some ⟨q, 0, none⟩), .int .i64 n, .int .i64 fr, rv] ty)) (.pointer (some ⟨w.heap.size, 0, none⟩)) (t :: T) :=
  .cons w.heap.size t T rv wh q n fr (fun e => Nat.lt_irrefl _ (h.Flt _ e)) (cells_new w _ ty) ht (tk_step h.todo (gr_bl (bl_alloc (bl_refl w) _) none) (fun k hk => by cases hk) (fun k hk => .inl hk))
theorem mp_then {f i : Nat} (h : MR X R S w T p tr C rv tv cv L) (hc : Cm w X.m (X.cs f i rv tv cv)) {t : Tk} {wh : Int} {q : Nat} {n fr : Int} (ht : TwAt X.W t wh q n fr) (ty : TypeId) :
    MP X R S ⟨t :: T, i, p, tr, C, f⟩ ((w.setCell ⟨X.m, 6, none⟩ (.pointer (some ⟨w.heap.size, 0, none⟩))).alloc (.cells #[.int .i64 wh, .pointer (some ⟨q, 0, none⟩), .int .i64 n, .int .i64 fr, rv] ty)) := by
  have h2 := h.set 6 (.pointer (some ⟨w.heap.size, 0, none⟩))
  have ht2 := mp_task h2 ht ty
  rw [set_alloc_size] at ht2
  exact ⟨_, tv, cv, L, (h2.bl (bl_alloc (bl_refl _) _)).re ht2, (hc.put 6 _).bl (bl_alloc (bl_refl _) _)⟩
set_option maxHeartbeats 4000000 in
theorem then_any {s : Ms} (h : MP X R S s w) {t : Tk} {wh : Int} {q : Nat} {n fr : Int} (ht : TwAt X.W t wh q n fr) :
    Calls Tryz.prog 60 #[.pointer (some ⟨X.m, 0, none⟩), .int .i64 wh, .pointer (some ⟨q, 0, none⟩), .int .i64 n, .int .i64 fr] w fun e w' => e = .returned (.tuple #[]) ∧ MP X R S { s with todo := t :: s.todo } w' := by
  obtain ⟨rv, tv, cv, L, hr, hc⟩ := h
  obtain ⟨a, rfl⟩ := tk_ptr hr.todo
  have c6 : w.cell? ⟨X.m, 6, none⟩ = some (.pointer a) := hc.c 6 _ rfl
  have f6 := hc.f 6
  have hml := hc.s
  have HR := hide hr
  have HC := hide hc
  have HT := hide ht
  clear hr hc ht
  go_enter Tryz.func60, Tryz.ntmps60
  go_wp2
  go_end0
  exact ⟨rfl, mp_then HR.out HC.out HT.out _⟩
theorem info_ch : (Tryz.prog.info? 111).map (fun i => (i.zero, i.size, i.bytes)) = some (some (.agg #[.pointer none, .int .i64 0, .int .i64 0]), 3, 24) := by kernel_rfl
theorem info_old : (Tryz.prog.info? 113).map (fun i => (i.zero, i.size, i.bytes)) = some (some (.agg #[.int .i64 0, .int .i64 0, .int .i64 0]), 3, 24) := by kernel_rfl
set_option maxHeartbeats 8000000 in
theorem orElse_any {s : Ms} (h : MP X R S s w) {t : Tk} {wh : Int} {q : Nat} {n : Int} (ht : TwAt X.W t wh q n 0) (hl : s.C.length ≤ 50000000) :
    Calls Tryz.prog 61 #[.pointer (some ⟨X.m, 0, none⟩), .int .i64 wh, .pointer (some ⟨q, 0, none⟩), .int .i64 n] w fun e w' => e = .returned (.tuple #[]) ∧ MP X R S { s with C := ⟨t :: s.todo, s.i, s.tr.length⟩ :: s.C } w' := by
  obtain ⟨i0, hi0, hz0', hz1, hz2⟩ := info_parts info_ch
  obtain ⟨rv, tv, cv, L, hr, hc⟩ := h
  obtain ⟨a, rfl⟩ := tk_ptr hr.todo
  obtain ⟨tA, tc, rfl⟩ := own_slice hr.trail
  obtain ⟨cA, cc, rfl⟩ := own_slice hr.chs
  have hll := chs_len hr.cs
  have c6 : w.cell? ⟨X.m, 6, none⟩ = some (.pointer a) := hc.c 6 _ rfl
  have HT := hide (mp_task hr ht 85)
  have hml := hc.s
  have HR := hide hr
  have HC := hide hc
  have HLL := hide (show L.length + 1 ≤ 100000000 by omega)
  clear hr hc ht hll hl
  go_enter Tryz.func61, Tryz.ntmps61
  go_wp2_with fail
  obtain ⟨B, hB⟩ : ∃ n, w.heap.size = n := ⟨_, rfl⟩
  obtain ⟨W1, hW1⟩ : ∃ W, w.alloc (.cells #[.int .i64 wh, .pointer (some ⟨q, 0, none⟩), .int .i64 n, .int .i64 0, .pointer a] 85) = W := ⟨_, rfl⟩
  have hb1 : Below w.heap.size w W1 := by rw [← hW1]; exact bl_alloc (bl_refl w) _
  have HC1 := hide (HC.out.bl hb1)
  have HR1 := hide (HR.out.bl hb1)
  have HT1 := hide HT.out
  rw [hW1, hB] at HT1
  have y5 : W1.cell? ⟨X.m, 5, none⟩ = some (.int .i64 ((s.i : Nat) : Int)) := HC1.out.c 5 _ rfl
  have y8 : W1.cell? ⟨X.m, 8, none⟩ = some (.slice tA s.tr.length tc) := HC1.out.c 8 _ rfl
  have y9 : W1.cell? ⟨X.m, 9, none⟩ = some (.slice cA L.length cc) := HC1.out.c 9 _ rfl
  have lt1 : X.m < W1.heap.size := HC1.out.s
  rw [hW1, hB]
  clear hb1 hW1 c6 hml HT HC HR
  go_region_law (refine step_src5 _ (by rfl) (.tmp 22) (.tmp 34) 73 (by rfl) X.B 111 i0 (.agg #[.pointer none, .int .i64 0, .int .i64 0]) 3 24 Tryz.underlying73 hi0 hz0' hz1 hz2 rfl (by decide) (.slice cA L.length cc) L.length (flatC L.reverse) (by rfl) (own_below HR1.out.chs (bl_alloc (bl_drew (bl_refl _)) _)) (some ⟨_, 0, none⟩) 1 1 [.pointer (some ⟨B, 0, none⟩), .int .i64 ((s.i : Nat) : Int), .int .i64 ((s.tr.length : Nat) : Int)] (by rfl) (src_block (cs := #[.pointer (some ⟨B, 0, none⟩), .int .i64 ((s.i : Nat) : Int), .int .i64 ((s.tr.length : Nat) : Int)]) (heap_new (by simp)) rfl) (by simp [Value.oneCell']) HLL.out (by decide) (by have := HR1.out.hm; simp; omega) ?_; intro v4 w4 hv4 hg4 h54; obtain ⟨A4, c4, rfl⟩ := own_slice hv4; have hcm4 := (HC1.out.bl (bl_alloc (bl_drew (bl_refl _)) _)).gr hg4 HR1.out.mc; have f9 := hcm4.f 9; have lt9 := hcm4.s; have t9 : w4.cell? ⟨X.m, 9, none⟩ = some (.slice cA L.length cc) := hcm4.c 9 _ rfl)
  all_goals
    have hfin := (HR1.out.bl (bl_alloc (bl_drew (bl_refl _)) _)).push (e := (.pointer (some ⟨B, 0, none⟩), s.i, s.tr.length)) (c := ⟨t :: s.todo, s.i, s.tr.length⟩) hv4 hg4 h54 (tk_step HT1.out (gr_bl (bl_alloc (bl_drew (bl_refl W1)) _) none) (fun k hk => by cases hk) (fun k hk => .inl hk)) rfl rfl
    have HF := hide (And.intro (hfin.set 9 (.slice A4 (L.length + 1) c4)) (hcm4.put 9 (.slice A4 (L.length + 1) c4)))
    clear hfin hcm4 hv4 hg4 h54
    go_wp2
    go_end0
    exact ⟨rfl, _, _, _, _, HF.out.1, HF.out.2⟩
end
end Go.Proofs.YtcnliipkfccohabGreat
end
section
namespace Go.Proofs.YtcnliipkfccohabGreat
open Go.ChangeShapes Go.WideShapes Go.ChangeAt Go.RowKit
open SetM SpanM
attribute [local go_sem ↓] Go.wp_at_zero Go.wp_at_succ
set_option maxRecDepth 100000
set_option linter.unusedVariables false
section
variable {X : Mx} {R : World} {S : List Nat} {w w' : World} {T : List Tk} {p : List (Int × Int)} {tr : List (Nat × (Int × Int))} {C : List Ch} {rv tv cv : Value} {L : List (Value × Nat × Nat)}
set_option maxHeartbeats 8000000 in
theorem stretch_any {s : Ms} (h : MP X R S s w) (a b : Nat) (ha : a < X.ps.length) (hb : b < X.ps.length) (hpl : X.ps.length ≤ 1000000) :
    Calls Tryz.prog 45 #[.pointer (some ⟨X.m, 0, none⟩), .int .i64 ((a : Nat) : Int), .int .i64 ((b : Nat) : Int)] w fun e w' => e = .returned (.agg #[.int .i64 ((X.ps[a] : Nat) : Int), .int .i64 ((X.ps[b] : Nat) : Int)]) ∧ Below w.heap.size w w' := by
  obtain ⟨rv, tv, cv, L, hr, hc⟩ := h
  have c1 : w.cell? ⟨X.m, 1, none⟩ = some (.slice (some ⟨X.plb, 0, none⟩) X.ps.length X.pc) := hc.c 1 _ rfl
  have hml := hc.s
  have hpc := own_form hr.pl
  have hx : ∀ i (hi : i < X.ps.length), w.cell? ⟨X.plb, i, none⟩ = some (.int .i64 ((X.ps[i] : Nat) : Int)) := fun i hi => by
    rw [World.ownsRow.cellAt hr.pl i (by simpa using hi)]
    simp [natC, hi]
  have xa := hx a ha
  have xb := hx b hb
  have hpb : X.plb < w.heap.size := World.block_lt_of_cell? _ _ xa
  obtain ⟨A, hA⟩ : ∃ x, X.ps[a] = x := ⟨_, rfl⟩
  obtain ⟨B, hB⟩ : ∃ x, X.ps[b] = x := ⟨_, rfl⟩
  rw [hA] at xa ⊢
  rw [hB] at xb ⊢
  have i1 : (0 : Int) ≤ (a : Int) := by omega
  have i2 : (a : Int) < (X.ps.length : Int) := by omega
  have i3 : (0 : Int) ≤ (b : Int) := by omega
  have i4 : (b : Int) < (X.ps.length : Int) := by omega
  clear hr hc hx hpc hA hB
  go_enter Tryz.func45, Tryz.ntmps45
  go_wp2
  go_region_held3 (fun W => W.cell? ⟨X.m, 1, none⟩ = some (.slice (some ⟨X.plb, 0, none⟩) X.ps.length X.pc) ∧ W.cell? ⟨X.plb, a, none⟩ = some (.int .i64 ((A : Nat) : Int)) ∧ W.cell? ⟨X.plb, b, none⟩ = some (.int .i64 ((B : Nat) : Int))) (go_keep) (fail)
  go_wp2
  refine bodyPost_ret (v := .agg #[.int .i64 ((A : Nat) : Int), .int .i64 ((B : Nat) : Int)]) ?_ rfl ⟨rfl, ?_⟩
  · rw [results_cell1 rfl]
    go_simp
  · repeat (first | exact bl_refl _ | refine bl_drew ?_ | refine bl_alloc ?_ _ | refine bl_set ?_ (by simp) _)
set_option maxHeartbeats 8000000 in
theorem char_any {s : Ms} (h : MP X R S s w) (a : Nat) (ha : a + 1 < X.ps.length) (h1 : X.ps[a]'(by omega) ≤ X.ps[a + 1]) (h2 : X.ps[a + 1] ≤ X.s.size) (hsz : X.s.size ≤ 1000000) (hpl : X.ps.length ≤ 1000000) :
    Calls Tryz.prog 77 #[.pointer (some ⟨X.m, 0, none⟩), .int .i64 ((a : Nat) : Int)] w fun e w' => e = .returned (.string (X.s.extract (X.ps[a]'(by omega)) X.ps[a + 1])) ∧ Below w.heap.size w w' := by
  obtain ⟨rv, tv, cv, L, hr, hc⟩ := h
  have c0 : w.cell? ⟨X.m, 0, none⟩ = some (.string X.s) := hc.c 0 _ rfl
  have c1 : w.cell? ⟨X.m, 1, none⟩ = some (.slice (some ⟨X.plb, 0, none⟩) X.ps.length X.pc) := hc.c 1 _ rfl
  have hx : ∀ i (hi : i < X.ps.length), w.cell? ⟨X.plb, i, none⟩ = some (.int .i64 ((X.ps[i] : Nat) : Int)) := fun i hi => by
    rw [World.ownsRow.cellAt hr.pl i (by simpa using hi)]
    simp [natC, hi]
  have xa := hx a (by omega)
  have xb := hx (a + 1) ha
  obtain ⟨A, hA⟩ : ∃ x, X.ps[a]'(by omega) = x := ⟨_, rfl⟩
  obtain ⟨B, hB⟩ : ∃ x, X.ps[a + 1] = x := ⟨_, rfl⟩
  rw [hA] at xa h1 ⊢
  rw [hB] at xb h1 h2 ⊢
  have i1 : (0 : Int) ≤ (a : Int) := by omega
  have i2 : (a : Int) < (X.ps.length : Int) := by omega
  have e1 : IntKind.i64.wrap ((a : Int) + 1) = (a : Int) + 1 := by rw [IntKind.wrap_i64]; omega
  have i3 : (0 : Int) ≤ (a : Int) + 1 := by omega
  have i4 : (a : Int) + 1 < (X.ps.length : Int) := by omega
  have i5 : ((a : Int) + 1).toNat = a + 1 := by omega
  have i6 : (0 : Int) ≤ (A : Int) := by omega
  have i7 : (A : Int) ≤ (B : Int) := by omega
  have i8 : (B : Int) ≤ (X.s.size : Int) := by omega
  clear hr hc hx hA hB
  go_enter Tryz.func77, Tryz.ntmps77
  go_wp2
  go_quiet (fail)
  go_wp2
  go_ret
  exact ⟨rfl, bl_drewN (bl_refl w) _⟩
def spB (a1 a2 b1 b2 : Int) : Bool := decide ((a1, a2) = (b1, b2))
theorem neq_spB (a1 a2 b1 b2 : Int) (w : World) : (binOp .neq 33 (.agg #[.int .i64 a1, .int .i64 a2]) (.agg #[.int .i64 b1, .int .i64 b2])).run Tryz.prog w = .ok (.bool (!spB a1 a2 b1 b2)) w := by
  unfold spB
  go_simp
  by_cases h1 : a1 = b1 <;> by_cases h2 : a2 = b2 <;> simp [h1, h2]
theorem eqgn_spB (x y : Operand) (a1 a2 b1 b2 : Int) (w : World) : (eqGuard .neq 33 x y (.agg #[.int .i64 a1, .int .i64 a2]) (.agg #[.int .i64 b1, .int .i64 b2])).run Tryz.prog w = .ok () w :=
  run_eqGuard_agg _ _ _ _ _ _ _ (by kernel_rfl)
attribute [local go_sem] eqgn_spB
attribute [local go_sem ↓] neq_spB
theorem parts_at (h : MR X R S w T p tr C rv tv cv L) (g : Nat) (hg : g < p.length) : w.cell? ⟨X.pb, g * 2, none⟩ = some (.int .i64 p[g].1) ∧ w.cell? ⟨X.pb, g * 2 + 1, none⟩ = some (.int .i64 p[g].2) := by
  have hp := h.hp
  obtain ⟨f1, f2⟩ := flat_at p g hg
  exact ⟨by rw [World.ownsRow.cellAt h.parts (g * 2) (by omega)]; exact f1, by rw [World.ownsRow.cellAt h.parts (g * 2 + 1) (by omega)]; exact f2⟩
theorem set_end (h : MR X R S w T p tr C rv tv cv L) {f i : Nat} (hc : Cm w X.m (X.cs f i rv tv cv)) (g : Nat) (hg : g < p.length) (v : Int × Int) :
    MP X R S ⟨T, i, p.set g v, tr, C, f⟩ ((w.setCell ⟨X.pb, g * 2, none⟩ (.int .i64 v.1)).setCell ⟨X.pb, g * 2 + 1, none⟩ (.int .i64 v.2)) :=
  ⟨_, _, _, _, h.part g hg v, (hc.gr (gr_set w X.pb _ _) (by intro e; injection e with e; exact h.mp e.symm)).gr (gr_set _ X.pb _ _) (by intro e; injection e with e; exact h.mp e.symm)⟩
set_option maxHeartbeats 8000000 in
theorem set_any {s : Ms} (h : MP X R S s w) (g : Nat) (hg : g < s.p.length) (a b : Int) (hnp : X.np ≤ 1000) (hl : s.tr.length ≤ 50000000) :
    Calls Tryz.prog 63 #[.pointer (some ⟨X.m, 0, none⟩), .int .i64 ((g : Nat) : Int), .agg #[.int .i64 a, .int .i64 b]] w fun e w' => e = .returned (.tuple #[]) ∧ MP X R S { s with p := (setM s.C s.p s.tr g (a, b)).1, tr := (setM s.C s.p s.tr g (a, b)).2 } w' := by
  obtain ⟨i0, hi0, hz0', hz1, hz2⟩ := info_parts info_old
  obtain ⟨rv, tv, cv, L, hr, hc⟩ := h
  obtain ⟨tA, tc, rfl⟩ := own_slice hr.trail
  obtain ⟨cA, cc, rfl⟩ := own_slice hr.chs
  have hll := chs_len hr.cs
  have hb1 : Below w.heap.size w (w.alloc (.cells #[.int .i64 a, .int .i64 b] 33)) := bl_alloc (bl_refl w) _
  have hpn := hr.hp
  obtain ⟨W1, hW1⟩ : ∃ W, w.alloc (.cells #[.int .i64 a, .int .i64 b] 33) = W := ⟨_, rfl⟩
  rw [hW1] at hb1
  have n0 : W1.cell? ⟨w.heap.size, 0, none⟩ = some (.int .i64 a) := by rw [← hW1]; exact cells_new w [.int .i64 a, .int .i64 b] _ 0 _ rfl
  have n1 : W1.cell? ⟨w.heap.size, 1, none⟩ = some (.int .i64 b) := by rw [← hW1]; exact cells_new w [.int .i64 a, .int .i64 b] _ 1 _ rfl
  have HC1 := hide (hc.bl hb1)
  have HR1 := hide (hr.bl hb1)
  obtain ⟨x0, x1⟩ := parts_at HR1.out g hg
  have y7 : W1.cell? ⟨X.m, 7, none⟩ = some (.slice (some ⟨X.pb, 0, none⟩) X.np X.qc) := HC1.out.c 7 _ rfl
  have y8 : W1.cell? ⟨X.m, 8, none⟩ = some (.slice tA s.tr.length tc) := HC1.out.c 8 _ rfl
  have y9 : W1.cell? ⟨X.m, 9, none⟩ = some (.slice cA L.length cc) := HC1.out.c 9 _ rfl
  have lt1 : X.m < W1.heap.size := HC1.out.s
  have lt2 : X.pb < W1.heap.size := HR1.out.plt.2
  have lt3 : w.heap.size < W1.heap.size := World.block_lt_of_cell? _ _ n0
  have ffp := fun o => World.ownsRow.frozenAt HR1.out.parts o
  have ff0 : W1.frozen? ⟨X.pb, g * 2, none⟩ = false := ffp (g * 2)
  have ff1 : W1.frozen? ⟨X.pb, g * 2 + 1, none⟩ = false := ffp (g * 2 + 1)
  have i1 : (0 : Int) ≤ (g : Int) := by omega
  have i2 : (g : Int) < (X.np : Int) := by omega
  have hpm : X.pb ≠ X.m := fun e => HR1.out.mp e.symm
  have HLL := hide (show s.tr.length + 1 ≤ 100000000 by omega)
  obtain ⟨u, hu⟩ : ∃ u, s.p[g] = u := ⟨_, rfl⟩
  rw [hu] at x0 x1
  have HG := hide hg
  obtain ⟨u0, u1⟩ := u
  have HU := hide hu
  simp only at x0 x1
  have HNW := hide (show X.pb < w.heap.size from hr.plt.2)
  have HMW := hide (show X.m < w.heap.size from hr.ml)
  have HTL := hide (show ∀ k, (Value.slice tA s.tr.length tc).ownBlock = some k → k < w.heap.size from fun k hk => (World.ownsRow.lt hr.trail k hk).2)
  clear hr hc hb1 ffp hu hl hpn
  by_cases hC : s.C = []
  · have d1 : decide ((0 : Int) < (L.length : Int)) = false := by rw [hll, hC]; rfl
    have d1' : decide (0 < L.length) = false := by rw [hll, hC]; rfl
    have HS := hide (show setM s.C s.p s.tr g (a, b) = (s.p.set g (a, b), s.tr) by unfold setM; rw [if_neg (fun hh => hh.1 hC)])
    rw [HS.out]
    clear hC hll
    go_enter Tryz.func63, Tryz.ntmps63
    go_wp2_with fail
    (try rw [hW1])
    go_quiet (fail)
    go_wp2_with fail
    have hnm : X.pb ≠ w.heap.size := by have := HNW.out; omega
    go_region_held3 (fun W => W.cell? ⟨X.m, 7, none⟩ = some (.slice (some ⟨X.pb, 0, none⟩) X.np X.qc) ∧ W.cell? ⟨w.heap.size, 0, none⟩ = some (.int .i64 a) ∧ W.cell? ⟨w.heap.size, 1, none⟩ = some (.int .i64 b)) (go_keep) (fail)
    have HF := hide (fun k => set_end (HR1.out.bl (bl_drewN (bl_refl W1) k)) (HC1.out.bl (bl_drewN (bl_refl W1) k)) g HG.out (a, b))
    go_wp2
    go_end0
    exact ⟨rfl, HF.out _⟩
  · have hlp : 0 < L.length := by rw [hll]; exact List.length_pos_iff.2 hC
    have d1 : decide ((0 : Int) < (L.length : Int)) = true := decide_eq_true (by omega)
    have d1' : decide (0 < L.length) = true := decide_eq_true hlp
    have hgd : s.p.getD g (0, 0) = (u0, u1) := by rw [List.getD_eq_getElem?_getD, List.getElem?_eq_getElem HG.out, Option.getD_some]; exact HU.out
    have hnm : X.pb ≠ w.heap.size := by have := HNW.out; omega
    by_cases he : (u0, u1) = (a, b)
    · have HS := hide (show setM s.C s.p s.tr g (a, b) = (s.p.set g (a, b), s.tr) by unfold setM; rw [if_neg (fun hh => hh.2 (hgd.trans he))])
      rw [HS.out]
      have hq : spB u0 u1 a b = true := decide_eq_true he
      clear hC hll hgd HU hlp he
      go_enter Tryz.func63, Tryz.ntmps63
      go_wp2_with fail
      (try rw [hW1])
      go_quiet (fail)
      go_wp2_with fail
      go_region_held3 (fun W => W.cell? ⟨X.m, 7, none⟩ = some (.slice (some ⟨X.pb, 0, none⟩) X.np X.qc) ∧ W.cell? ⟨w.heap.size, 0, none⟩ = some (.int .i64 a) ∧ W.cell? ⟨w.heap.size, 1, none⟩ = some (.int .i64 b)) (go_keep) (fail)
      have HF := hide (fun k => set_end (HR1.out.bl (bl_drewN (bl_refl W1) k)) (HC1.out.bl (bl_drewN (bl_refl W1) k)) g HG.out (a, b))
      go_wp2
      go_end0
      exact ⟨rfl, HF.out _⟩
    · have HS := hide (show setM s.C s.p s.tr g (a, b) = (s.p.set g (a, b), s.tr ++ [(g, (u0, u1))]) by unfold setM; rw [if_pos ⟨hC, fun hh => he (hgd.symm.trans hh)⟩, hgd])
      rw [HS.out]
      have hq : spB u0 u1 a b = false := decide_eq_false he
      clear hC hll hgd HU hlp he
      go_enter Tryz.func63, Tryz.ntmps63
      go_wp2_with fail
      (try rw [hW1])
      go_quiet (fail)
      obtain ⟨W2, hW2⟩ : ∃ W, W1.drewN nq = W := ⟨_, rfl⟩
      have hb2 : Below W1.heap.size W1 W2 := by rw [← hW2]; exact bl_drewN (bl_refl W1) _
      rw [hW2]
      have HC2 := hide (HC1.out.bl hb2)
      have HR2 := hide (HR1.out.bl hb2)
      have z0 := cell_later hb2 x0
      have z1 := cell_later hb2 x1
      have z7 := cell_later hb2 y7
      have z8 := cell_later hb2 y8
      have k0 := cell_later hb2 n0
      have k1 := cell_later hb2 n1
      have l1 : X.m < W2.heap.size := HC2.out.s
      have l2 : X.pb < W2.heap.size := HR2.out.plt.2
      have l3 : w.heap.size < W2.heap.size := Nat.lt_of_lt_of_le lt3 hb2.size
      clear hW2 hb2 x0 x1 y7 y8 y9 n0 n1 ff0 ff1 lt1 lt2 lt3 HC1 HR1 hW1 d1 d1'
      go_wp2_with fail
      go_region_law (refine step_src5 _ (by rfl) (.tmp 27) (.tmp 37) 72 (by rfl) X.B 113 i0 (.agg #[.int .i64 0, .int .i64 0, .int .i64 0]) 3 24 Tryz.underlying72 hi0 hz0' hz1 hz2 rfl (by decide) (.slice tA s.tr.length tc) s.tr.length (flatT s.tr) (by rfl) (own_below HR2.out.trail (bl_alloc (bl_drew (bl_refl _)) _)) (some ⟨_, 0, none⟩) 1 1 [.int .i64 ((g : Nat) : Int), .int .i64 u0, .int .i64 u1] (by rfl) (src_block (cs := #[.int .i64 ((g : Nat) : Int), .int .i64 u0, .int .i64 u1]) (heap_new (by simp)) rfl) (by simp [Value.oneCell']) HLL.out (by decide) (by have := HR2.out.hm; simp; omega) ?_; intro v4 w4 hv4 hg4 h54; obtain ⟨A4, c4, rfl⟩ := own_slice hv4; have hcm4 := (HC2.out.bl (bl_alloc (bl_drew (bl_refl _)) _)).gr hg4 HR2.out.mt; have f8 := hcm4.f 8; have lt8 := hcm4.s; have t8 : w4.cell? ⟨X.m, 8, none⟩ = some (.slice tA s.tr.length tc) := hcm4.c 8 _ rfl)
      all_goals
        have hfin := ((HR2.out.bl (bl_alloc (bl_drew (bl_refl _)) _)).keep (e := (g, (u0, u1))) hv4 hg4 h54).set 8 (.slice A4 (s.tr.length + 1) c4)
        have hcm5 := hcm4.put 8 (.slice A4 (s.tr.length + 1) c4)
        have k0' := cell_gr hg4 (by intro e; have := HTL.out _ e; simp at this) (cell_later (bl_alloc (bl_drew (bl_refl _)) (.cells #[.int .i64 ((g : Nat) : Int), .int .i64 u0, .int .i64 u1] 113)) k0)
        have k1' := cell_gr hg4 (by intro e; have := HTL.out _ e; simp at this) (cell_later (bl_alloc (bl_drew (bl_refl _)) (.cells #[.int .i64 ((g : Nat) : Int), .int .i64 u0, .int .i64 u1] 113)) k1)
        have hne : X.m ≠ w.heap.size := by have := HMW.out; omega
        have k0 := cell_gr (gr_set w4 X.m 8 (.slice A4 (s.tr.length + 1) c4)) (by intro e; injection e with e; exact hne e) k0'
        have k1 := cell_gr (gr_set w4 X.m 8 (.slice A4 (s.tr.length + 1) c4)) (by intro e; injection e with e; exact hne e) k1'
        clear k0' k1' hcm4 hv4 hg4 h54 t8 f8 lt8 z0 z1 z7 z8
        obtain ⟨W5, hW5⟩ : ∃ W, w4.setCell ⟨X.m, 8, none⟩ (.slice A4 (s.tr.length + 1) c4) = W := ⟨_, rfl⟩
        rw [hW5] at hfin hcm5 k0 k1 ⊢
        clear hW5
        have z7 : W5.cell? ⟨X.m, 7, none⟩ = some (.slice (some ⟨X.pb, 0, none⟩) X.np X.qc) := hcm5.c 7 _ rfl
        have ff0 : W5.frozen? ⟨X.pb, g * 2, none⟩ = false := World.ownsRow.frozenAt hfin.parts (g * 2)
        have ff1 : W5.frozen? ⟨X.pb, g * 2 + 1, none⟩ = false := World.ownsRow.frozenAt hfin.parts (g * 2 + 1)
        obtain ⟨p0, p1⟩ := parts_at hfin g hg
        have lt1 : X.m < W5.heap.size := hcm5.s
        have lt2 : X.pb < W5.heap.size := hfin.plt.2
        have lt3 : w.heap.size < W5.heap.size := World.block_lt_of_cell? _ _ k0
        have HR5 := hide hfin
        have HC5 := hide hcm5
        clear hfin hcm5 HR2 HC2
        go_wp2_with fail
        go_region_held3 (fun W => W.cell? ⟨X.m, 7, none⟩ = some (.slice (some ⟨X.pb, 0, none⟩) X.np X.qc) ∧ W.cell? ⟨w.heap.size, 0, none⟩ = some (.int .i64 a) ∧ W.cell? ⟨w.heap.size, 1, none⟩ = some (.int .i64 b)) (go_keep) (fail)
        have HF := hide (set_end (HR5.out.bl (bl_drew (bl_refl W5))) (HC5.out.bl (bl_drew (bl_refl W5))) g HG.out (a, b))
        go_wp2
        go_end0
        exact ⟨rfl, HF.out⟩
end
end Go.Proofs.YtcnliipkfccohabGreat
end
section
namespace Go.Proofs.YtcnliipkfccohabGreat
open Go.ChangeShapes Go.WideShapes Go.ChangeAt Go.RowKit
open SetM SpanM
attribute [local go_sem ↓] Go.wp_at_zero Go.wp_at_succ
set_option maxRecDepth 100000
set_option linter.unusedVariables false
section
variable {X : Mx} {R : World} {S : List Nat} {w w' : World} {T : List Tk} {p : List (Int × Int)} {tr : List (Nat × (Int × Int))} {C : List Ch} {rv tv cv : Value} {L : List (Value × Nat × Nat)}
theorem nd_open {W : World} {q : Nat} {x : Rt} {g : Nat} (h : NdAt W q x g) (hb : Below W.heap.size W w) : ∃ kv q2, (∀ j u, (x.cs ++ [kv, .int .i64 ((g : Nat) : Int), .int .i64 ((g + gM x : Nat) : Int)])[j]? = some u → w.cell? ⟨q, j, none⟩ = some u) ∧ RwAt w x.rv x.rows ∧ PtAt w kv x.kids.length q2 ∧ ∀ i (h : i < x.kids.length), NdAt W (q2 i) x.kids[i] (kgo x g + gL (x.kids.take i)) := by
  cases h with
  | mk _ _ _ kv q2 hc hr hk hs => exact ⟨kv, q2, fun j u hu => cell_later hb (hc j u hu), rwat_below hr hb, ptat_below hk hb, hs⟩
theorem mp_bW {s : Ms} (h : MP X R S s w) : Below X.W.heap.size X.W w := by
  obtain ⟨_, _, _, _, hr, _⟩ := h
  exact hr.bW
set_option maxHeartbeats 8000000 in
theorem decide_any {s : Ms} (h : MP X R S s w) {q : Nat} {x : Rt} {g n : Nat} (hn : NdAt X.W q x g) (h0 : 0 ≤ x.mi) (hm : x.ma ≠ -1 → ((n : Nat) : Int) ≤ x.ma) (hl : s.C.length ≤ 50000000) :
    Calls Tryz.prog 62 #[.pointer (some ⟨X.m, 0, none⟩), .pointer (some ⟨q, 0, none⟩), .int .i64 ((n : Nat) : Int)] w fun e w' => e = .returned (.tuple #[]) ∧ MP X R S (decM x g n s.todo s) w' := by
  have HTH := hide (fun (s : Ms) (w : World) (h : MP X R S s w) => then_any h (TwAt.begin q x g n 0 hn))
  have HOE := hide (fun (h : MP X R S s w) => orElse_any h (TwAt.begin q x g n 0 hn) hl)
  obtain ⟨kv, q2, hcs, -, -, -⟩ := nd_open hn (mp_bW h)
  have x4 : w.cell? ⟨q, 4, none⟩ = some (.int .i64 x.mi) := hcs 4 _ rfl
  have x5 : w.cell? ⟨q, 5, none⟩ = some (.int .i64 x.ma) := hcs 5 _ rfl
  have x6 : w.cell? ⟨q, 6, none⟩ = some (.bool x.lz) := hcs 6 _ rfl
  have H := hide h
  clear hcs h hn
  by_cases c1 : ((n : Nat) : Int) < x.mi
  · have HD := hide (show decM x g n s.todo s = { s with todo := .begin x g n :: s.todo } by unfold decM; rw [if_pos c1])
    rw [HD.out]
    have d1 : decide (((n : Nat) : Int) < x.mi) = true := decide_eq_true c1
    clear c1 hm h0
    go_enter Tryz.func62, Tryz.ntmps62
    go_wp2_with fail
    refine (HTH.out s w H.out).mono ?_
    rintro e w1 ⟨rfl, hm1⟩
    have HM1 := hide hm1
    clear hm1
    go_wp2
    go_end0
    exact ⟨rfl, HM1.out⟩
  · have d1 : decide (((n : Nat) : Int) < x.mi) = false := decide_eq_false c1
    by_cases c2 : x.ma ≠ -1 ∧ x.ma ≤ ((n : Nat) : Int)
    · have HD := hide (show decM x g n s.todo s = s by unfold decM; rw [if_neg c1, if_pos c2])
      rw [HD.out]
      have d2 : (((n : Nat) : Int) == x.ma) = true := beq_iff_eq.2 (by have := hm c2.1; omega)
      clear c1 c2 hm h0
      go_enter Tryz.func62, Tryz.ntmps62
      go_wp2_with fail
      go_end0
      exact ⟨rfl, H.out⟩
    · have d2 : (((n : Nat) : Int) == x.ma) = false := beq_eq_false_iff_ne.2 (fun e => c2 ⟨by omega, by omega⟩)
      cases hz : x.lz with
      | true =>
        have HD := hide (show decM x g n s.todo s = { s with C := ⟨.begin x g n :: s.todo, s.i, s.tr.length⟩ :: s.C } by unfold decM; rw [if_neg c1, if_neg c2, if_pos hz])
        rw [HD.out]
        rw [hz] at x6
        clear c1 c2 hm h0 hz
        go_enter Tryz.func62, Tryz.ntmps62
        go_wp2_with fail
        refine (HOE.out H.out).mono ?_
        rintro e w1 ⟨rfl, hm1⟩
        have HM1 := hide hm1
        clear hm1
        go_wp2
        go_end0
        exact ⟨rfl, HM1.out⟩
      | false =>
        have HD := hide (show decM x g n s.todo s = { s with todo := .begin x g n :: s.todo, C := ⟨s.todo, s.i, s.tr.length⟩ :: s.C } by unfold decM; rw [if_neg c1, if_neg c2, if_neg (by rw [hz]; exact Bool.false_ne_true)])
        rw [HD.out]
        rw [hz] at x6
        clear c1 c2 hm h0 hz
        obtain ⟨i0, hi0, hz0', hz1, hz2⟩ := info_parts info_ch
        obtain ⟨rv, tv, cv, L, hr, hc⟩ := H.out
        obtain ⟨a, rfl⟩ := tk_ptr hr.todo
        obtain ⟨tA, tc, rfl⟩ := own_slice hr.trail
        obtain ⟨cA, cc, rfl⟩ := own_slice hr.chs
        have hll := chs_len hr.cs
        have y5 : w.cell? ⟨X.m, 5, none⟩ = some (.int .i64 ((s.i : Nat) : Int)) := hc.c 5 _ rfl
        have y6 : w.cell? ⟨X.m, 6, none⟩ = some (.pointer a) := hc.c 6 _ rfl
        have y8 : w.cell? ⟨X.m, 8, none⟩ = some (.slice tA s.tr.length tc) := hc.c 8 _ rfl
        have y9 : w.cell? ⟨X.m, 9, none⟩ = some (.slice cA L.length cc) := hc.c 9 _ rfl
        have lt1 : X.m < w.heap.size := hc.s
        have HR := hide hr
        have HC := hide hc
        have HLL := hide (show L.length + 1 ≤ 100000000 by omega)
        clear hr hc hll
        go_enter Tryz.func62, Tryz.ntmps62
        go_wp2_with fail
        go_region_law (refine step_src5 _ (by rfl) (.tmp 10) (.tmp 25) 73 (by rfl) X.B 111 i0 (.agg #[.pointer none, .int .i64 0, .int .i64 0]) 3 24 Tryz.underlying73 hi0 hz0' hz1 hz2 rfl (by decide) (.slice cA L.length cc) L.length (flatC L.reverse) (by rfl) (own_below HR.out.chs (bl_alloc (bl_drew (bl_refl _)) _)) (some ⟨_, 0, none⟩) 1 1 [.pointer a, .int .i64 ((s.i : Nat) : Int), .int .i64 ((s.tr.length : Nat) : Int)] (by rfl) (src_block (cs := #[.pointer a, .int .i64 ((s.i : Nat) : Int), .int .i64 ((s.tr.length : Nat) : Int)]) (heap_new (by simp)) rfl) (by simp [Value.oneCell']) HLL.out (by decide) (by have := HR.out.hm; simp; omega) ?_; intro v4 w4 hv4 hg4 h54; obtain ⟨A4, c4, rfl⟩ := own_slice hv4; have hcm4 := (HC.out.bl (bl_alloc (bl_drew (bl_refl _)) _)).gr hg4 HR.out.mc; have f9 := hcm4.f 9; have lt9 := hcm4.s; have t9 : w4.cell? ⟨X.m, 9, none⟩ = some (.slice cA L.length cc) := hcm4.c 9 _ rfl)
        all_goals
          have hfin := (HR.out.bl (bl_alloc (bl_drew (bl_refl _)) _)).push (e := (.pointer a, s.i, s.tr.length)) (c := ⟨s.todo, s.i, s.tr.length⟩) hv4 hg4 h54 (tk_step HR.out.todo (gr_bl (bl_alloc (bl_drew (bl_refl w)) _) none) (fun k hk => by cases hk) (fun k hk => .inl hk)) rfl rfl
          have HF := hide (show MP X R S { s with C := ⟨s.todo, s.i, s.tr.length⟩ :: s.C } (w4.setCell ⟨X.m, 9, none⟩ (.slice A4 (L.length + 1) c4)) from ⟨_, _, _, _, hfin.set 9 (.slice A4 (L.length + 1) c4), hcm4.put 9 (.slice A4 (L.length + 1) c4)⟩)
          clear hfin hcm4 hv4 hg4 h54
          go_wp2_with fail
          refine (HTH.out _ _ HF.out).mono ?_
          rintro e w1 ⟨rfl, hm1⟩
          have HM1 := hide hm1
          clear hm1
          go_wp2
          go_end0
          exact ⟨rfl, HM1.out⟩
end
end Go.Proofs.YtcnliipkfccohabGreat
end
section
namespace Go.Proofs.YtcnliipkfccohabGreat
open Go.ChangeShapes Go.WideShapes Go.ChangeAt Go.RowKit
open SetM SpanM
attribute [local go_sem ↓] Go.wp_at_zero Go.wp_at_succ
set_option maxRecDepth 100000
set_option linter.unusedVariables false
section
variable {X : Mx} {R : World} {S : List Nat} {w w' : World} {T : List Tk} {p : List (Int × Int)} {tr : List (Nat × (Int × Int))} {C : List Ch} {rv tv cv : Value} {L : List (Value × Nat × Nat)}
theorem flatT_at (l : List (Nat × (Int × Int))) (i : Nat) (h : i < l.length) : (flatT l)[i * 3]? = some (.int .i64 ((l[i].1 : Nat) : Int)) ∧ (flatT l)[i * 3 + 1]? = some (.int .i64 l[i].2.1) ∧ (flatT l)[i * 3 + 2]? = some (.int .i64 l[i].2.2) := by
  induction l generalizing i with
  | nil => simp at h
  | cons a r ih =>
    cases i with
    | zero => exact ⟨rfl, rfl, rfl⟩
    | succ i =>
      have e : flatT (a :: r) = .int .i64 ((a.1 : Nat) : Int) :: .int .i64 a.2.1 :: .int .i64 a.2.2 :: flatT r := rfl
      have h1 : (i + 1) * 3 = i * 3 + 1 + 1 + 1 := by omega
      have h2 := ih i (by simpa using h)
      rw [e, h1]
      exact h2
theorem flatT_take (l : List (Nat × (Int × Int))) (k : Nat) : (flatT l).take (k * 3) = flatT (l.take k) := by
  induction l generalizing k with
  | nil => simp [flatT]
  | cons a r ih =>
    cases k with
    | zero => rfl
    | succ k =>
      have e : ∀ (b : Nat × (Int × Int)) (q : List (Nat × (Int × Int))), flatT (b :: q) = .int .i64 ((b.1 : Nat) : Int) :: .int .i64 b.2.1 :: .int .i64 b.2.2 :: flatT q := fun _ _ => rfl
      have h1 : (k + 1) * 3 = k * 3 + 1 + 1 + 1 := by omega
      rw [e, h1, List.take_succ_cons, List.take_succ_cons, List.take_succ_cons, ih, List.take_succ_cons, e]
theorem flatC_len (l : List (Value × Nat × Nat)) : (flatC l).length = l.length * 3 := by
  induction l with
  | nil => rfl
  | cons a r ih => simp only [flatC, List.flatMap_cons, List.length_append, List.length_cons] at *; simp only [encC, List.length_cons, List.length_nil]; omega
theorem flatC_last (e : Value × Nat × Nat) (l : List (Value × Nat × Nat)) : (flatC (e :: l).reverse)[l.length * 3]? = some e.1 ∧ (flatC (e :: l).reverse)[l.length * 3 + 1]? = some (.int .i64 ((e.2.1 : Nat) : Int)) ∧ (flatC (e :: l).reverse)[l.length * 3 + 2]? = some (.int .i64 ((e.2.2 : Nat) : Int)) := by
  have hl : (flatC l.reverse).length = l.length * 3 := by rw [flatC_len, List.length_reverse]
  rw [flatC_snoc]
  refine ⟨?_, ?_, ?_⟩
  · rw [List.getElem?_append_right (by omega), hl, Nat.sub_self]; rfl
  · rw [List.getElem?_append_right (by omega), hl, Nat.add_sub_cancel_left]; rfl
  · rw [List.getElem?_append_right (by omega), hl, Nat.add_sub_cancel_left]; rfl
theorem undo_step (p : List (Int × Int)) (tr : List (Nat × (Int × Int))) (j : Nat) (h : j < tr.length) : undo p tr j = (undo p tr (j + 1)).set tr[j].1 tr[j].2 := by
  unfold undo
  rw [List.drop_eq_getElem_cons h]
  rfl
theorem front_own {w : World} {base : Nat} {e : TypeId} {size g n c m : Nat} {xs ys : List Value} (h : w.ownsRow base e size (.slice (some ⟨g, 0, none⟩) n c) n xs) (hm : m ≤ n) (hy : xs.take (m * size) = ys) :
    w.ownsRow base e size (.slice (some ⟨g, 0, none⟩) m c) m ys := by
  rcases h.2 with ⟨h0, _⟩ | ⟨g', c', cur, hv, hb, hh, h1, h2, h3, h4⟩
  · cases h0
  cases hv
  have hms : m * size ≤ n * size := Nat.mul_le_mul_right _ hm
  refine ⟨by rw [← hy, List.length_take, h.1]; omega, .inr ⟨g, c, cur, rfl, hb, hh, by omega, h2, h3, ?_⟩⟩
  rw [← hy, ← h4, List.take_take, Nat.min_eq_left hms]
theorem front_cv {g n c : Nat} {base : Nat} {e : TypeId} {size m : Nat} {xs : List Value} (h : w.ownsRow base e size (.slice (some ⟨g, 0, none⟩) n c) n xs) (hm : m ≤ n) : w.ownsRow base e size (.slice (some ⟨g, 0, none⟩) m c) m (xs.take (m * size)) := front_own h hm rfl
theorem MR.pop {g n cc : Nat} {c : Ch} {e : Value × Nat × Nat} (h : MR X R S w T p tr (c :: C) rv tv (.slice (some ⟨g, 0, none⟩) n cc) (e :: L)) (hn : n = L.length + 1) : MR X R S w c.todo p tr C e.1 tv (.slice (some ⟨g, 0, none⟩) L.length cc) L := by
  subst hn
  have hF : ∀ k, X.F tv (.slice (some ⟨g, 0, none⟩) L.length cc) k → X.F tv (.slice (some ⟨g, 0, none⟩) (L.length + 1) cc) k ∨ w.heap.size ≤ k := fun k hk => .inl hk
  have h2 := front_cv (m := L.length) h.chs (by simp)
  rw [flatC_snoc, List.take_left' (by rw [flatC_len, List.length_reverse])] at h2
  exact { h with
    ic := h.ic
    mc := h.mc
    pc := h.pc
    tc := h.tc
    plF := h.plF
    chs := h2
    todo := tk_step h.cs.1 (grown_refl w none) (fun k hk => by cases hk) hF
    cs := chs_step (grown_refl w none) (fun k hk => by cases hk) hF h.cs.2.2.2 }
theorem MR.cut {A : Option Addr} {tc k : Nat} (h : MR X R S w T p tr C rv (.slice A tr.length tc) cv L) (hk : k ≤ tr.length) : MR X R S w T p (tr.take k) C rv (.slice A k tc) cv L := by
  have hl : (tr.take k).length = k := by rw [List.length_take]; omega
  have h2 : w.ownsRow X.B 113 3 (.slice A k tc) (tr.take k).length (flatT (tr.take k)) := by
    rw [hl]
    rcases own_form h.trail with ⟨hv, h1, h2⟩ | ⟨g, c, hv, _⟩
    · injection hv with hA hl2 hc2
      have hk0 : k = 0 := by omega
      subst hA hc2 hk0
      exact ⟨by simp [flatT], .inl ⟨rfl, rfl⟩⟩
    · injection hv with hA hl2 hc2
      subst hA hc2
      have := front_cv (m := k) h.trail hk
      rwa [flatT_take] at this
  have hb : (Value.slice A k tc).ownBlock = (Value.slice A tr.length tc).ownBlock := by cases A <;> rfl
  have hF : ∀ j, X.F (.slice A k tc) cv j → X.F (.slice A tr.length tc) cv j ∨ w.heap.size ≤ j := fun j hj => .inl (by
    rcases hj with hj | hj | hj | hj
    · exact .inl hj
    · exact .inr (.inl hj)
    · exact .inr (.inr (.inl (by rw [← hb]; exact hj)))
    · exact .inr (.inr (.inr hj)))
  exact { h with
    it := fun j hj => h.it j (by rw [← hb]; exact hj)
    mt := by rw [hb]; exact h.mt
    pt := by rw [hb]; exact h.pt
    tc := fun j hj => h.tc j (by rw [← hb]; exact hj)
    plF := fun hj => by
      rcases hF _ hj with h1 | h1
      · exact h.plF h1
      · have := (World.ownsRow.lt h.pl X.plb rfl).2
        omega
    trail := h2
    todo := tk_step h.todo (grown_refl w none) (fun k hk => by cases hk) hF
    cs := chs_step (grown_refl w none) (fun k hk => by cases hk) hF h.cs }
theorem mp_bl' {s : Ms} (h : MP X R S s w) (hb : Below w.heap.size w w') : MP X R S s w' := by
  obtain ⟨_, _, _, _, hr, hc⟩ := h
  exact ⟨_, _, _, _, hr.bl hb, hc.bl hb⟩
def GbPost (X : Mx) (R : World) (S : List Nat) (s : Ms) (e : Ending) (w' : World) : Prop := match s.C with
  | [] => e = .returned (.bool false) ∧ MP X R S s w'
  | c :: C => e = .returned (.bool true) ∧ MP X R S ⟨c.todo, c.i, undo s.p s.tr c.k, s.tr.take c.k, C, s.f⟩ w'
set_option maxHeartbeats 8000000 in
theorem goBack_any {s : Ms} (h : MP X R S s w) (hk : ∀ c C, s.C = c :: C → c.k ≤ s.tr.length) (htr : ∀ e ∈ s.tr, e.1 < X.np) (hnp : X.np ≤ 1000) (hl : s.C.length ≤ 50000000) (hl2 : s.tr.length ≤ 50000000) :
    Calls Tryz.prog 36 #[.pointer (some ⟨X.m, 0, none⟩)] w (GbPost X R S s) := by
  obtain ⟨rv, tv, cv, L, hr, hc⟩ := h
  obtain ⟨a, rfl⟩ := tk_ptr hr.todo
  obtain ⟨tA, tc, rfl⟩ := own_slice hr.trail
  obtain ⟨cA, cc, rfl⟩ := own_slice hr.chs
  have hll := chs_len hr.cs
  obtain ⟨s0, i, p, tr, C, f⟩ := s
  simp only at hr hc hk htr hl hl2 hll
  unfold GbPost
  simp only
  have lt1 : X.m < w.heap.size := hc.s
  have y9 : w.cell? ⟨X.m, 9, none⟩ = some (.slice cA L.length cc) := hc.c 9 _ rfl
  cases C with
  | nil =>
    have hL : L.length = 0 := hll
    rw [hL] at y9
    have HM := hide (show MP X R S ⟨s0, i, p, tr, [], f⟩ w from ⟨_, _, _, _, hr, hc⟩)
    clear hr hc hk htr hl hl2 hll hL
    go_enter Tryz.func36, Tryz.ntmps36
    go_wp2
    go_ret
    exact ⟨rfl, HM.out⟩
  | cons c C =>
    cases L with
    | nil => simp at hll
    | cons e L =>
      rcases own_form hr.chs with ⟨hv, h1, _⟩ | ⟨cg, c9, hv, _, hcg, hnc, _, hcel⟩
      · simp at h1
      · injection hv with hv _ hv2
        subst hv hv2
        obtain ⟨ea, hea⟩ := tk_ptr hr.cs.1
        have hci := hr.cs.2.1
        have hck := hr.cs.2.2.1
        obtain ⟨z0, z1, z2⟩ := flatC_last e L
        rw [hea] at z0
        rw [hci] at z1
        rw [hck] at z2
        have x0 := hcel _ _ z0
        have x1 := hcel _ _ z1
        have x2 := hcel _ _ z2
        have y8 : w.cell? ⟨X.m, 8, none⟩ = some (.slice tA tr.length tc) := hc.c 8 _ rfl
        have f9 := hc.f 9
        have HP := hide (hr.pop (by simp))
        have hcm : X.m ≠ cg := fun e => hr.mc (by rw [e]; rfl)
        rw [hea] at HP
        have hkk : c.k ≤ tr.length := hk c C rfl
        have HTR := hide htr
        have HC := hide hc
        have hPW := hr.plt.2
        have hl3 : (e :: L).length = L.length + 1 := rfl
        rw [hl3] at y9 hnc
        have hLL : L.length ≤ 50000000 := by have := hll; simp at this; simp at hl; omega
        have HMP := hide hr.mp
        obtain ⟨n, hn⟩ : ∃ n, L.length = n := ⟨_, rfl⟩
        rw [hn] at x0 x1 x2 y9 HP hLL hnc
        have HNL := hide hn
        clear hr hc hk htr hll hcel z0 z1 z2 hea hci hck hl hl3 hn
        have i1 : (0 : Int) ≤ (n : Int) := by omega
        have i2 : (n : Int) < (n : Int) + 1 := by omega
        have d1 : decide ((n : Int) < 0) = false := decide_eq_false (by omega)
        go_enter Tryz.func36, Tryz.ntmps36
        have i3 : (n : Int) ≤ (cc : Int) := by omega
        have i4 : n ≤ cc := by omega
        have b0 : X.m ≠ w.heap.size := by omega
        go_wp2
        obtain ⟨W1, hW1⟩ : ∃ W, (w.setCell ⟨X.m, 9, none⟩ (.slice (some ⟨cg, 0, none⟩) n cc)).alloc (.cells #[.pointer ea, .int .i64 ((c.i : Nat) : Int), .int .i64 ((c.k : Nat) : Int)] 111) = W := ⟨_, rfl⟩
        rw [hW1]
        have HR1 := hide (show MR X R S W1 c.todo p tr C (.pointer ea) (.slice tA tr.length tc) (.slice (some ⟨cg, 0, none⟩) L.length cc) L by rw [← hW1, HNL.out]; exact (HP.out.set 9 _).bl (bl_alloc (bl_refl _) _))
        have HC1 := hide (show Cm W1 X.m (X.cs f i (.pointer a) (.slice tA tr.length tc) (.slice (some ⟨cg, 0, none⟩) n cc)) by rw [← hW1]; exact (HC.out.put 9 _).bl (bl_alloc (bl_refl _) _))
        have HB1 := hide (show Cm W1 w.heap.size [.pointer ea, .int .i64 ((c.i : Nat) : Int), .int .i64 ((c.k : Nat) : Int)] by rw [← hW1]; exact cm_new _ _ (set_alloc_size w _ _ _))
        obtain ⟨B, hB⟩ : ∃ b, w.heap.size = b := ⟨_, rfl⟩
        rw [hB] at HB1 b0 hPW ⊢
        clear hW1 x0 x1 x2 y8 y9 HP HC i1 i2 i3 d1 f9 hB lt1
        go_loopw [5] (fun v wr => ∃ (z : Int) (j : Nat), v = .int .i64 z ∧ z + 1 = ((j : Nat) : Int) ∧ c.k ≤ j ∧ j ≤ tr.length ∧ Hid (MR X R S wr c.todo (undo p tr j) tr C (.pointer ea) (.slice tA tr.length tc) (.slice (some ⟨cg, 0, none⟩) L.length cc) L) ∧ Hid (Cm wr X.m (X.cs f i (.pointer a) (.slice tA tr.length tc) (.slice (some ⟨cg, 0, none⟩) n cc))) ∧ Hid (Cm wr B [.pointer ea, .int .i64 ((c.i : Nat) : Int), .int .i64 ((c.k : Nat) : Int)])) (fun v _ => (intOf v + 1).toNat)
        case atStart => exact ⟨(tr.length : Int) - 1, tr.length, by first | rfl | go_num, by omega, hkk, Nat.le_refl _, by rw [undo_len]; exact HR1, HC1, HB1⟩
        case round =>
          obtain ⟨z, j, rfl, hz, hj1, hj2, HR, HC, HB⟩ := hrel
          clear HR1 HC1 HB1
          have k0 : wr.cell? ⟨B, 0, none⟩ = some (.pointer ea) := HB.out.c 0 _ rfl
          have k1 : wr.cell? ⟨B, 1, none⟩ = some (.int .i64 ((c.i : Nat) : Int)) := HB.out.c 1 _ rfl
          have k2 : wr.cell? ⟨B, 2, none⟩ = some (.int .i64 ((c.k : Nat) : Int)) := HB.out.c 2 _ rfl
          have y7 : wr.cell? ⟨X.m, 7, none⟩ = some (.slice (some ⟨X.pb, 0, none⟩) X.np X.qc) := HC.out.c 7 _ rfl
          have y8 : wr.cell? ⟨X.m, 8, none⟩ = some (.slice tA tr.length tc) := HC.out.c 8 _ rfl
          have lt1 : X.m < wr.heap.size := HC.out.s
          have lt2 : X.pb < wr.heap.size := HR.out.plt.2
          have lt3 : B < wr.heap.size := HB.out.s
          have hpm : X.pb ≠ X.m := fun e => HMP.out e.symm
          have hpB : X.pb ≠ B := by omega
          by_cases hlt : c.k < j
          · have d1 : decide (((c.k : Nat) : Int) ≤ z) = true := decide_eq_true (by omega)
            obtain ⟨j1, rfl⟩ : ∃ j1, j = j1 + 1 := ⟨j - 1, by omega⟩
            obtain rfl : z = ((j1 : Nat) : Int) := by omega
            have hjt : j1 < tr.length := by omega
            have d2 : decide (c.k ≤ j1) = true := decide_eq_true (by omega)
            have HU := hide (undo_step p tr j1 hjt)
            have hg := HTR.out tr[j1] (List.getElem_mem hjt)
            rcases own_form HR.out.trail with ⟨hv, h1, _⟩ | ⟨tg, c8, hv, _, htg, hnt, _, htel⟩
            · omega
            · injection hv with hv _ hv2
              subst hv hv2
              obtain ⟨f0, f1, f2⟩ := flatT_at tr j1 hjt
              have x0 := htel _ _ f0
              have x1 := htel _ _ f1
              have x2 := htel _ _ f2
              have htm : X.pb ≠ tg := fun e => HR.out.pt (by rw [e]; rfl)
              have hup : (undo p tr (j1 + 1)).length = X.np := HR.out.hp
              obtain ⟨ev, hev⟩ : ∃ e, tr[j1] = e := ⟨_, rfl⟩
              rw [hev] at x0 x1 x2 HU hg
              have ff0 : wr.frozen? ⟨X.pb, ev.1 * 2, none⟩ = false := World.ownsRow.frozenAt HR.out.parts _
              have ff1 : wr.frozen? ⟨X.pb, ev.1 * 2 + 1, none⟩ = false := World.ownsRow.frozenAt HR.out.parts _
              obtain ⟨v0, q0⟩ : ∃ v, wr.cell? ⟨X.pb, ev.1 * 2, none⟩ = some (.int .i64 v) := ⟨_, (parts_at HR.out ev.1 (by omega)).1⟩
              obtain ⟨v1, q1⟩ : ∃ v, wr.cell? ⟨X.pb, ev.1 * 2 + 1, none⟩ = some (.int .i64 v) := ⟨_, (parts_at HR.out ev.1 (by omega)).2⟩
              have i1 : (0 : Int) ≤ (j1 : Int) := by omega
              have i2 : (j1 : Int) < (tr.length : Int) := by omega
              have i5 : (0 : Int) ≤ (ev.1 : Int) := by omega
              have i6 : (ev.1 : Int) < (X.np : Int) := by omega
              have HEND := hide (fun (W : World) (hb : Below wr.heap.size wr W) => And.intro ((HR.out.bl hb).part ev.1 (by omega) ev.2) (And.intro (((HC.out.bl hb).gr (gr_set W X.pb (ev.1 * 2) (.int .i64 ev.2.1)) (by intro e; injection e with e; exact hpm e)).gr (gr_set _ X.pb (ev.1 * 2 + 1) (.int .i64 ev.2.2)) (by intro e; injection e with e; exact hpm e)) (((HB.out.bl hb).gr (gr_set W X.pb (ev.1 * 2) (.int .i64 ev.2.1)) (by intro e; injection e with e; exact hpB e)).gr (gr_set _ X.pb (ev.1 * 2 + 1) (.int .i64 ev.2.2)) (by intro e; injection e with e; exact hpB e))))
              have HJ := hide (show c.k ≤ j1 ∧ j1 ≤ tr.length ∧ j1 ≤ 50000000 by omega)
              clear hev htel f0 f1 f2 hg hup hlt hjt hj1 hj2 hz HR HC HB htg hnt
              go_wp2_with fail
              go_region_held3 (fun W => W.cell? ⟨X.m, 7, none⟩ = some (.slice (some ⟨X.pb, 0, none⟩) X.np X.qc) ∧ W.cell? ⟨X.m, 8, none⟩ = some (.slice (some ⟨tg, 0, none⟩) tr.length tc) ∧ W.cell? ⟨tg, j1 * 3, none⟩ = some (.int .i64 ((ev.1 : Nat) : Int)) ∧ W.cell? ⟨tg, j1 * 3 + 1, none⟩ = some (.int .i64 ev.2.1) ∧ W.cell? ⟨tg, j1 * 3 + 2, none⟩ = some (.int .i64 ev.2.2)) (go_keep) (fail)
              all_goals
                obtain ⟨e1, e2, e3⟩ := HEND.out _ (bl_drew (bl_refl wr))
                rw [← HU.out] at e1
                have E1 := hide e1
                have E2 := hide e2
                have E3 := hide e3
                have e9 : IntKind.i64.wrap (((j1 : Nat) : Int) - 1) = ((j1 : Nat) : Int) - 1 := by rw [IntKind.wrap_i64]; have := HJ.out; omega
                clear e1 e2 e3 HEND HU q0 q1 x0 x1 x2 ff0 ff1 k0 k1 k2 y7 y8 d1
                go_wp2
                refine ⟨?_, by first | (simp [intOf]; done) | (simp [intOf]; omega)⟩
                first
                  | exact ⟨((j1 : Nat) : Int) - 1, j1, rfl, by omega, HJ.out.1, HJ.out.2.1, E1, E2, E3⟩
                  | ((repeat apply Exists.intro); exact ⟨⟨((j1 : Nat) : Int) - 1, j1, rfl, by omega, HJ.out.1, HJ.out.2.1, E1, E2, E3⟩, rfl⟩)
          · obtain rfl : j = c.k := by omega
            have d1 : decide (((c.k : Nat) : Int) ≤ z) = false := decide_eq_false (by omega)
            have f5 := HC.out.f 5
            have f6 := HC.out.f 6
            have f8 := HC.out.f 8
            have y5 : wr.cell? ⟨X.m, 5, none⟩ = some (.int .i64 ((i : Nat) : Int)) := HC.out.c 5 _ rfl
            have y6 : wr.cell? ⟨X.m, 6, none⟩ = some (.pointer a) := HC.out.c 6 _ rfl
            have i1 : (0 : Int) ≤ ((c.k : Nat) : Int) := by omega
            have HEND := hide (fun (W : World) (hb : Below wr.heap.size wr W) => (show MP X R S ⟨c.todo, c.i, undo p tr c.k, tr.take c.k, C, f⟩ (((W.setCell ⟨X.m, 5, none⟩ (.int .i64 ((c.i : Nat) : Int))).setCell ⟨X.m, 6, none⟩ (.pointer ea)).setCell ⟨X.m, 8, none⟩ (.slice tA c.k tc)) from ⟨_, _, _, _, ((((HR.out.bl hb).cut hkk).set 5 _).set 6 _).set 8 _, by have h3 := (((HC.out.bl hb).put 5 (.int .i64 ((c.i : Nat) : Int))).put 6 (.pointer ea)).put 8 (.slice tA c.k tc); rw [HNL.out]; exact h3⟩))
            rcases own_form HR.out.trail with ⟨hv, h1, _⟩ | ⟨tg, c8, hv, _, htg, hnt, _, htel⟩
            · injection hv with hA hl3 hc3
              subst hA hc3
              have h0 : c.k = 0 := by omega
              have h00 : tr.length = 0 := h1
              have y8 : wr.cell? ⟨X.m, 8, none⟩ = some (.slice none 0 0) := by have := HC.out.c 8 _ rfl; rw [this, h00]
              obtain rfl : z = -1 := by omega
              rw [h0] at k2 HEND ⊢
              replace k2 : wr.cell? ⟨B, 2, none⟩ = some (.int .i64 0) := k2
              clear d1
              clear HR HC HB hj1 hj2 hz hlt i1
              go_wp2_with fail
              go_region
              have HE2 := hide (mp_bl' (HEND.out wr (bl_refl wr)) (bl_drew (bl_refl _)))
              clear HEND
              go_wp2
              go_ret
              rw [h0]
              exact ⟨rfl, HE2.out⟩
            · injection hv with hA _ hc3
              subst hA hc3
              have i2 : ((c.k : Nat) : Int) ≤ (tc : Int) := by omega
              have i3 : c.k ≤ tc := by omega
              clear HR HC HB htel hnt htg hj1 hj2 hz hlt
              go_wp2_with fail
              go_region
              have HE2 := hide (mp_bl' (HEND.out wr (bl_refl wr)) (bl_drew (bl_refl _)))
              clear HEND
              go_wp2
              go_ret
              exact ⟨rfl, HE2.out⟩
end
end Go.Proofs.YtcnliipkfccohabGreat
end
