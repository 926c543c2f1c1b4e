/- Plain facts of matching: it does not hang on where a tree lies; what stands behind. No condition. -/
import Derived.Test.YtcnliipkfccohabGreatSnB
namespace Go.Proofs.YtcnliipkfccohabGreat
open SetM SpanM
set_option maxRecDepth 100000
set_option linter.unusedVariables false
theorem er1k (x : Rt) : (er x).k = x.k := by rw [er_eq]; rfl
theorem er1mi (x : Rt) : (er x).mi = x.mi := by rw [er_eq]; rfl
theorem er1ma (x : Rt) : (er x).ma = x.ma := by rw [er_eq]; rfl
theorem er1lz (x : Rt) : (er x).lz = x.lz := by rw [er_eq]; rfl
theorem er1kids (x : Rt) : (er x).kids = x.kids.map er := by rw [er_eq]; rfl
def Kt.er : Kt → Kt
  | .hold x g => .hold (Go.Proofs.YtcnliipkfccohabGreat.er x) g
  | .ended g b => .ended g b
  | .again x g m b => .again (Go.Proofs.YtcnliipkfccohabGreat.er x) g m b
theorem holds1er : ∀ (l : List Rt) (g : Nat), holdsK (l.map er) g = (holdsK l g).map Kt.er
  | [], _ => rfl
  | x :: l, g => by rw [List.map_cons, holdsK, holdsK, List.map_cons, gM_er, holds1er l]; rfl
section
variable (offs : Nat → Int) (tk : Rt → Nat → Option Nat)
mutual
  theorem on_er (hT : ∀ x i, tk (er x) i = tk x i) : ∀ {f : Nat} {ks : List Kt} {i : Nat} {p : List (Int × Int)} {r : Ro}, On offs tk f ks i p r → On offs tk f (ks.map Kt.er) i p r
    | _, _, _, _, _, .nil f i p => .nil f i p
    | _, _, _, _, _, .ended f g b ks i p r h => .ended f g b _ i p r (on_er hT h)
    | _, _, _, _, _, .stuck f x g m b ks i p h1 h2 => .stuck f _ g m b _ i p (by rw [er1mi]; exact h1) h2
    | _, _, _, _, _, .again f x g m b ks i p r h1 h => .again f _ g m b _ i p r (by rw [er1mi]; exact h1) (onr_er hT h)
    | _, _, _, _, _, .seq f x g ks i p r hk h => .seq f _ g _ i p r (by rw [er1k]; exact hk) (by rw [er1kids, holds1er, ← List.map_append]; exact on_er hT h)
    | _, _, _, _, _, .alt f x g ks i p r hk h => .alt f _ g _ i p r (by rw [er1k]; exact hk) (by rw [er1kids]; exact ona_er hT h)
    | _, _, _, _, _, .rep f x g ks i p r hk h => .rep f _ g _ i p r (by rw [er1k]; exact hk) (onr_er hT h)
    | _, _, _, _, _, .dry x g ks i p hk => .dry _ g _ i p (by rw [er1k]; exact hk)
    | _, _, _, _, _, .group f x y g ks i p r hk hy h => .group f _ (er y) g _ i p r (by rw [er1k]; exact hk) (by rw [er1kids, hy]; rfl) (on_er hT h)
    | _, _, _, _, _, .bare f x y g ks i p r hk hy h => .bare f _ (er y) g _ i p r (by rw [er1k]; exact hk) (by rw [er1kids, hy]; rfl) (on_er hT h)
    | _, _, _, _, _, .no f x g ks i p hk ht => .no f _ g _ i p (by rw [er1k]; exact hk) (by rw [hT]; exact ht)
    | _, _, _, _, _, .yes f x g ks i p n r hk ht h => .yes f _ g _ i p n r (by rw [er1k]; exact hk) (by rw [hT]; exact ht) (on_er hT h)
  theorem ona_er (hT : ∀ x i, tk (er x) i = tk x i) : ∀ {f : Nat} {l : List Rt} {g : Nat} {ks : List Kt} {i : Nat} {p : List (Int × Int)} {r : Ro}, OnA offs tk f l g ks i p r → OnA offs tk f (l.map er) g (ks.map Kt.er) i p r
    | _, _, _, _, _, _, _, .nil f g ks i p => .nil f g _ i p
    | _, _, _, _, _, _, _, .done f x l g ks i p r h hr => .done f _ _ g _ i p r (on_er hT h) hr
    | _, _, _, _, _, _, _, .next f f' x l g ks i p r h h2 => .next f f' _ _ g _ i p r (on_er hT h) (by rw [gM_er]; exact ona_er hT h2)
  theorem onr_er (hT : ∀ x i, tk (er x) i = tk x i) : ∀ {f : Nat} {x : Rt} {g m : Nat} {ks : List Kt} {i : Nat} {p : List (Int × Int)} {r : Ro}, OnR offs tk f x g m ks i p r → OnR offs tk f (er x) g m (ks.map Kt.er) i p r
    | _, _, _, _, _, _, _, _, .must f x g m ks i p r h1 h => .must f _ g m _ i p r (by rw [er1mi]; exact h1) (ont_er hT h)
    | _, _, _, _, _, _, _, _, .full f x g m ks i p r h1 h2 h => .full f _ g m _ i p r (by rw [er1mi]; exact h1) (by rw [er1ma]; exact h2) (on_er hT h)
    | _, _, _, _, _, _, _, _, .lazyD f x g m ks i p r h1 h2 hl h hr => .lazyD f _ g m _ i p r (by rw [er1mi]; exact h1) (by rw [er1ma]; exact h2) (by rw [er1lz]; exact hl) (on_er hT h) hr
    | _, _, _, _, _, _, _, _, .lazyN f f' x g m ks i p r h1 h2 hl h h3 => .lazyN f f' _ g m _ i p r (by rw [er1mi]; exact h1) (by rw [er1ma]; exact h2) (by rw [er1lz]; exact hl) (on_er hT h) (ont_er hT h3)
    | _, _, _, _, _, _, _, _, .moreD f x g m ks i p r h1 h2 hl h hr => .moreD f _ g m _ i p r (by rw [er1mi]; exact h1) (by rw [er1ma]; exact h2) (by rw [er1lz]; exact hl) (ont_er hT h) hr
    | _, _, _, _, _, _, _, _, .moreN f f' x g m ks i p r h1 h2 hl h h3 => .moreN f f' _ g m _ i p r (by rw [er1mi]; exact h1) (by rw [er1ma]; exact h2) (by rw [er1lz]; exact hl) (ont_er hT h) (on_er hT h3)
  theorem ont_er (hT : ∀ x i, tk (er x) i = tk x i) : ∀ {f : Nat} {x : Rt} {g m : Nat} {ks : List Kt} {i : Nat} {p : List (Int × Int)} {r : Ro}, OnT offs tk f x g m ks i p r → OnT offs tk f (er x) g m (ks.map Kt.er) i p r
    | _, _, _, _, _, _, _, _, .mk f x y g m ks i p r hy h => .mk f _ (er y) g m _ i p r (by rw [er1kids, hy]; rfl) (by rw [gM_er]; exact on_er hT h)
end
end
section
variable (offs : Nat → Int) (tk : Rt → Nat → Option Nat) (kz : List Kt)
/-- What comes of it with kz behind. -/
def Cn (r r' : Ro) : Prop := match r with
  | .fail f => r' = .fail f
  | .dry => r' = .dry
  | .found j q f => On offs tk f kz j q r' ∧ ∀ f'', r' ≠ .fail f''
theorem cn_nf {r r' : Ro} (h : Cn offs tk kz r r') (hr : ∀ f', r ≠ .fail f') : ∀ f', r' ≠ .fail f' := by
  cases r with
  | fail f => exact absurd rfl (hr f)
  | dry => intro f' e; rw [show r' = .dry from h] at e; cases e
  | found j q f => exact h.2
mutual
  theorem on_app : ∀ {f : Nat} {ks : List Kt} {i : Nat} {p : List (Int × Int)} {r : Ro}, On offs tk f ks i p r → ∀ r', Cn offs tk kz r r' → On offs tk f (ks ++ kz) i p r'
    | _, _, _, _, _, .nil f i p, r', hc => hc.1
    | _, _, _, _, _, .ended f g b ks i p r h, r', hc => .ended f g b _ i p r' (on_app h r' hc)
    | _, _, _, _, _, .stuck f x g m b ks i p h1 h2, r', hc => by rw [show r' = .fail f from hc]; exact .stuck f x g m b _ i p h1 h2
    | _, _, _, _, _, .again f x g m b ks i p r h1 h, r', hc => .again f x g m b _ i p r' h1 (onr_app h r' hc)
    | _, _, _, _, _, .seq f x g ks i p r hk h, r', hc => .seq f x g _ i p r' hk (by have := on_app h r' hc; rw [List.append_assoc] at this; exact this)
    | _, _, _, _, _, .alt f x g ks i p r hk h, r', hc => .alt f x g _ i p r' hk (ona_app h r' hc)
    | _, _, _, _, _, .rep f x g ks i p r hk h, r', hc => .rep f x g _ i p r' hk (onr_app h r' hc)
    | _, _, _, _, _, .dry x g ks i p hk, r', hc => by rw [show r' = .dry from hc]; exact .dry x g _ i p hk
    | _, _, _, _, _, .group f x y g ks i p r hk hy h, r', hc => .group f x y g _ i p r' hk hy (on_app h r' hc)
    | _, _, _, _, _, .bare f x y g ks i p r hk hy h, r', hc => .bare f x y g _ i p r' hk hy (on_app h r' hc)
    | _, _, _, _, _, .no f x g ks i p hk ht, r', hc => by rw [show r' = .fail f from hc]; exact .no f x g _ i p hk ht
    | _, _, _, _, _, .yes f x g ks i p n r hk ht h, r', hc => .yes f x g _ i p n r' hk ht (on_app h r' hc)
  theorem ona_app : ∀ {f : Nat} {l : List Rt} {g : Nat} {ks : List Kt} {i : Nat} {p : List (Int × Int)} {r : Ro}, OnA offs tk f l g ks i p r → ∀ r', Cn offs tk kz r r' → OnA offs tk f l g (ks ++ kz) i p r'
    | _, _, _, _, _, _, _, .nil f g ks i p, r', hc => by rw [show r' = .fail f from hc]; exact .nil f g _ i p
    | _, _, _, _, _, _, _, .done f x l g ks i p r h hr, r', hc => .done f x l g _ i p r' (on_app h r' hc) (cn_nf offs tk kz hc hr)
    | _, _, _, _, _, _, _, .next f f' x l g ks i p r h h2, r', hc => .next f f' x l g _ i p r' (on_app h (.fail f') rfl) (ona_app h2 r' hc)
  theorem onr_app : ∀ {f : Nat} {x : Rt} {g m : Nat} {ks : List Kt} {i : Nat} {p : List (Int × Int)} {r : Ro}, OnR offs tk f x g m ks i p r → ∀ r', Cn offs tk kz r r' → OnR offs tk f x g m (ks ++ kz) i p r'
    | _, _, _, _, _, _, _, _, .must f x g m ks i p r h1 h, r', hc => .must f x g m _ i p r' h1 (ont_app h r' hc)
    | _, _, _, _, _, _, _, _, .full f x g m ks i p r h1 h2 h, r', hc => .full f x g m _ i p r' h1 h2 (on_app h r' hc)
    | _, _, _, _, _, _, _, _, .lazyD f x g m ks i p r h1 h2 hl h hr, r', hc => .lazyD f x g m _ i p r' h1 h2 hl (on_app h r' hc) (cn_nf offs tk kz hc hr)
    | _, _, _, _, _, _, _, _, .lazyN f f' x g m ks i p r h1 h2 hl h h3, r', hc => .lazyN f f' x g m _ i p r' h1 h2 hl (on_app h (.fail f') rfl) (ont_app h3 r' hc)
    | _, _, _, _, _, _, _, _, .moreD f x g m ks i p r h1 h2 hl h hr, r', hc => .moreD f x g m _ i p r' h1 h2 hl (ont_app h r' hc) (cn_nf offs tk kz hc hr)
    | _, _, _, _, _, _, _, _, .moreN f f' x g m ks i p r h1 h2 hl h h3, r', hc => .moreN f f' x g m _ i p r' h1 h2 hl (ont_app h (.fail f') rfl) (on_app h3 r' hc)
  theorem ont_app : ∀ {f : Nat} {x : Rt} {g m : Nat} {ks : List Kt} {i : Nat} {p : List (Int × Int)} {r : Ro}, OnT offs tk f x g m ks i p r → ∀ r', Cn offs tk kz r r' → OnT offs tk f x g m (ks ++ kz) i p r'
    | _, _, _, _, _, _, _, _, .mk f x y g m ks i p r hy h, r', hc => .mk f x y g m _ i p r' hy (on_app h r' hc)
end
end
section
variable (offs : Nat → Int) (tk : Rt → Nat → Option Nat) (kz : List Kt)
def Tl (r : Ro) : Prop := ∀ j q e, r = .found j q e → ∃ f2 i2 p2, On offs tk f2 kz i2 p2 (.found j q e)
theorem tl_fail (f : Nat) : Tl offs tk kz (.fail f) := fun _ _ _ h => by cases h
mutual
  theorem on_tail : ∀ {f : Nat} {ks : List Kt} {i : Nat} {p : List (Int × Int)} {r : Ro}, On offs tk f ks i p r → ∀ ka, ks = ka ++ kz → Tl offs tk kz r
    | _, _, _, _, _, .nil f i p, ka, e => by
      have h2 : kz = [] := (List.append_eq_nil_iff.1 e.symm).2
      exact fun j q e2 hr => ⟨f, i, p, by rw [← hr, h2]; exact .nil f i p⟩
    | _, _, _, _, _, .ended f g b ks i p r h, ka, e => by
      cases ka with
      | nil => exact fun j q e2 hr => ⟨_, _, _, by rw [← hr, ← show _ = kz from e]; exact (.ended f g b ks i p r h)⟩
      | cons a ka =>
        injection e with e1 e2
        exact on_tail h ka e2
    | _, _, _, _, _, .stuck f x g m b ks i p h1 h2, ka, e => by
      cases ka with
      | nil => exact fun j q e2 hr => ⟨_, _, _, by rw [← hr, ← show _ = kz from e]; exact (.stuck f x g m b ks i p h1 h2)⟩
      | cons a ka =>
        injection e with e1 e2
        exact tl_fail offs tk kz f
    | _, _, _, _, _, .again f x g m b ks i p r h1 h, ka, e => by
      cases ka with
      | nil => exact fun j q e2 hr => ⟨_, _, _, by rw [← hr, ← show _ = kz from e]; exact (.again f x g m b ks i p r h1 h)⟩
      | cons a ka =>
        injection e with e1 e2
        exact onr_tail h ka e2
    | _, _, _, _, _, .seq f x g ks i p r hk h, ka, e => by
      cases ka with
      | nil => exact fun j q e2 hr => ⟨_, _, _, by rw [← hr, ← show _ = kz from e]; exact (.seq f x g ks i p r hk h)⟩
      | cons a ka =>
        injection e with e1 e2
        exact on_tail h (holdsK x.kids g ++ ka) (by rw [e2]; exact (List.append_assoc _ _ _).symm)
    | _, _, _, _, _, .alt f x g ks i p r hk h, ka, e => by
      cases ka with
      | nil => exact fun j q e2 hr => ⟨_, _, _, by rw [← hr, ← show _ = kz from e]; exact (.alt f x g ks i p r hk h)⟩
      | cons a ka =>
        injection e with e1 e2
        exact ona_tail h ka e2
    | _, _, _, _, _, .rep f x g ks i p r hk h, ka, e => by
      cases ka with
      | nil => exact fun j q e2 hr => ⟨_, _, _, by rw [← hr, ← show _ = kz from e]; exact (.rep f x g ks i p r hk h)⟩
      | cons a ka =>
        injection e with e1 e2
        exact onr_tail h ka e2
    | _, _, _, _, _, .dry x g ks i p hk, ka, e => by
      cases ka with
      | nil => exact fun j q e2 hr => ⟨_, _, _, by rw [← hr, ← show _ = kz from e]; exact (.dry x g ks i p hk)⟩
      | cons a ka =>
        injection e with e1 e2
        exact fun _ _ _ h => by cases h
    | _, _, _, _, _, .group f x y g ks i p r hk hy h, ka, e => by
      cases ka with
      | nil => exact fun j q e2 hr => ⟨_, _, _, by rw [← hr, ← show _ = kz from e]; exact (.group f x y g ks i p r hk hy h)⟩
      | cons a ka =>
        injection e with e1 e2
        exact on_tail h (.hold y (g + 1) :: .ended g i :: ka) (by rw [e2]; rfl)
    | _, _, _, _, _, .bare f x y g ks i p r hk hy h, ka, e => by
      cases ka with
      | nil => exact fun j q e2 hr => ⟨_, _, _, by rw [← hr, ← show _ = kz from e]; exact (.bare f x y g ks i p r hk hy h)⟩
      | cons a ka =>
        injection e with e1 e2
        exact on_tail h (.hold y g :: ka) (by rw [e2]; rfl)
    | _, _, _, _, _, .no f x g ks i p hk ht, ka, e => by
      cases ka with
      | nil => exact fun j q e2 hr => ⟨_, _, _, by rw [← hr, ← show _ = kz from e]; exact (.no f x g ks i p hk ht)⟩
      | cons a ka =>
        injection e with e1 e2
        exact tl_fail offs tk kz f
    | _, _, _, _, _, .yes f x g ks i p n r hk ht h, ka, e => by
      cases ka with
      | nil => exact fun j q e2 hr => ⟨_, _, _, by rw [← hr, ← show _ = kz from e]; exact (.yes f x g ks i p n r hk ht h)⟩
      | cons a ka =>
        injection e with e1 e2
        exact on_tail h ka e2
  theorem ona_tail : ∀ {f : Nat} {l : List Rt} {g : Nat} {ks : List Kt} {i : Nat} {p : List (Int × Int)} {r : Ro}, OnA offs tk f l g ks i p r → ∀ ka, ks = ka ++ kz → Tl offs tk kz r
    | _, _, _, _, _, _, _, .nil f g ks i p, ka, e => tl_fail offs tk kz f
    | _, _, _, _, _, _, _, .done f x l g ks i p r h hr, ka, e => on_tail h (.hold x g :: ka) (by rw [e]; rfl)
    | _, _, _, _, _, _, _, .next f f' x l g ks i p r h h2, ka, e => ona_tail h2 ka e
  theorem onr_tail : ∀ {f : Nat} {x : Rt} {g m : Nat} {ks : List Kt} {i : Nat} {p : List (Int × Int)} {r : Ro}, OnR offs tk f x g m ks i p r → ∀ ka, ks = ka ++ kz → Tl offs tk kz r
    | _, _, _, _, _, _, _, _, .must f x g m ks i p r h1 h, ka, e => ont_tail h ka e
    | _, _, _, _, _, _, _, _, .full f x g m ks i p r h1 h2 h, ka, e => on_tail h ka e
    | _, _, _, _, _, _, _, _, .lazyD f x g m ks i p r h1 h2 hl h hr, ka, e => on_tail h ka e
    | _, _, _, _, _, _, _, _, .lazyN f f' x g m ks i p r h1 h2 hl h h3, ka, e => ont_tail h3 ka e
    | _, _, _, _, _, _, _, _, .moreD f x g m ks i p r h1 h2 hl h hr, ka, e => ont_tail h ka e
    | _, _, _, _, _, _, _, _, .moreN f f' x g m ks i p r h1 h2 hl h h3, ka, e => on_tail h3 ka e
  theorem ont_tail : ∀ {f : Nat} {x : Rt} {g m : Nat} {ks : List Kt} {i : Nat} {p : List (Int × Int)} {r : Ro}, OnT offs tk f x g m ks i p r → ∀ ka, ks = ka ++ kz → Tl offs tk kz r
    | _, _, _, _, _, _, _, _, .mk f x y g m ks i p r hy h, ka, e => on_tail h (.hold y g :: .again x g (m + 1) i :: ka) (by rw [e]; rfl)
end
end
end Go.Proofs.YtcnliipkfccohabGreat
