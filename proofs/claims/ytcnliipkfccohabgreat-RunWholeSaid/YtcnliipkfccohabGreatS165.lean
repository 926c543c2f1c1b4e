/- What is read, as plain functions of the bytes: atoms, groups, terms, alternatives. No condition. Plain facts of what is read: it is never left open, it goes on, how big it is. No condition. A place in a pattern with the count of open groups beside it: what counting up and down leaves. No condition. Contract: a group of a pattern (rxread's group), from that of what stands in it. Condition: the place is in the text. Contract: an atom of a pattern (rxread's atom), from that of a group. Condition: the place is in a text of at most 256 bytes. Contract: a term of a pattern (rxread's term), from that of an atom. Condition: the place is in the text, some bytes are to come. Contract: an alternative of a pattern (rxread's alternative), from that of a term. Condition: the place is in a text of at most 256 bytes. Contract: a pattern (rxread's pattern). Condition: the place is in a text of at most 256 bytes. Contract: rxread.Read. No condition but a text that is not too long. The layer's awake. No condition. Plain facts: what is read may be; its parts, groups, how deep it is. No condition. -/
import Derived.Test.YtcnliipkfccohabGreatS164
import Derived.Test.YtcnliipkfccohabGreatS161
namespace Go.Proofs.YtcnliipkfccohabGreat
end Go.Proofs.YtcnliipkfccohabGreat
namespace Go.Proofs.YtcnliipkfccohabGreat.SetM
end Go.Proofs.YtcnliipkfccohabGreat.SetM
namespace Go.Proofs.YtcnliipkfccohabGreat.SpanM
end Go.Proofs.YtcnliipkfccohabGreat.SpanM
section
namespace Go.Proofs.YtcnliipkfccohabGreat
section
open SetM
set_option linter.unusedVariables false
def grpE (k : Int) : Res → Res
  | .no => .no
  | .err n => .err n
  | .ok x r => if (hdC r == [41]) = true then .ok (kdX k [x]) (tlC r) else .err 10
def grpP (deep : Bool) (pat : List UInt8 → Res) (l : List UInt8) : Res :=
  if deep = true then .err 8
  else if (hdC l == [63]) = true then (if (hdC (tlC l) == [58]) = true then grpE 6 (pat (tlC (tlC l))) else .err 10)
  else grpE 5 (pat l)
def atomP (deep : Bool) (pat : List UInt8 → Res) (l : List UInt8) : Res :=
  if (hdC l == [46]) = true then .ok (kdX 3 []) (tlC l) else if (hdC l == [40]) = true then grpP deep pat (tlC l)
  else if (hdC l == [91]) = true then classP (tlC l) else if (hdC l == [92]) = true then bakP (tlC l)
  else if (hdC l == [42]) = true then .err 10 else if (hdC l == [43]) = true then .err 10 else if (hdC l == [63]) = true then .err 10 else if (hdC l == [123]) = true then .err 10
  else .ok (chX (bsC (hdC l))) (tlC l)
def termP (deep : Bool) (pat : List UInt8 → Res) (l : List UInt8) : Res :=
  if (hdC l == [94]) = true then .ok (kdX 8 []) (tlC l) else if (hdC l == [36]) = true then .ok (kdX 9 []) (tlC l)
  else match atomP deep pat l with
    | .no => .no
    | .err n => .err n
    | .ok x r => if x.k = 10 ∨ x.k = 11 then .ok x r else qntP x r
def endB (l : List UInt8) : Bool := l.isEmpty || (hdC l == [124] || hdC l == [41])
def termsP (deep : Bool) (pat : List UInt8 → Res) : Nat → List Rt → List UInt8 → Res
  | 0, _, _ => .no
  | n + 1, acc, l =>
    if endB l = true then .ok (seqX (flK 0 acc)) l
    else match termP deep pat l with
      | .no => .no
      | .err n => .err n
      | .ok x r => termsP deep pat n (acc ++ [x]) r
def altsP (deep : Bool) (pat : List UInt8 → Res) : Nat → List Rt → List UInt8 → Res
  | 0, _, _ => .no
  | n + 1, acc, l =>
    match termsP deep pat (l.length + 1) [] l with
    | .no => .no
    | .err n => .err n
    | .ok x r => if (hdC r == [124]) = true then altsP deep pat n (acc ++ [x]) (tlC r) else .ok (altX (flK 1 (acc ++ [x]))) r
def patP : Nat → List UInt8 → Res
  | 0, _ => .no
  | f + 1, l => altsP (f == 0) (patP f) (l.length + 1) [] l
theorem er_er (t : Rt) : er (er t) = er t := by
  match t with
  | .mk k ch nt rv rows mi ma lz kv kids =>
    rw [er_eq, er_eq]
    simp only [Rt.k, Rt.ch, Rt.nt, Rt.rows, Rt.mi, Rt.ma, Rt.lz, Rt.kids, List.map_map]
    congr 1
    exact List.map_congr_left (fun x hx => er_er x)
theorem flK_er (k : Int) (l : List Rt) : flK k (l.map er) = flK k l := by
  induction l with
  | nil => rfl
  | cons a r ih =>
    unfold flK at ih ⊢
    rw [List.map_cons, List.flatMap_cons, List.flatMap_cons, ih]
    have h1 : (er a).k = a.k := by rw [er_eq]; rfl
    have h2 : (er a).kids.map er = a.kids.map er := by
      rw [er_eq]
      show (a.kids.map er).map er = _
      rw [List.map_map]
      exact List.map_congr_left (fun x _ => er_er x)
    rw [h1, h2, er_er]
end
section
open SetM
set_option linter.unusedVariables false
theorem rwS_perm {l m : List Rw} (h : l.Perm m) : rwS l = rwS m := by
  induction h with
  | nil => rfl
  | cons x _ ih => rw [rwS, rwS, ih]
  | swap x y l => simp only [rwS]; omega
  | trans _ _ h1 h2 => exact h1.trans h2
theorem rwS_filter (p : Rw → Bool) (l : List Rw) : rwS (l.filter p) ≤ rwS l := by
  induction l with
  | nil => exact Nat.le_refl _
  | cons a l ih =>
    rw [List.filter_cons]
    split <;> simp only [rwS] <;> omega
theorem rwS_step (acc : List Rw) (s : Rw) : rwS (stepU acc s) ≤ rwS acc + (1 + s.1.size + s.2.size) := by
  rcases List.eq_nil_or_concat acc with rfl | ⟨a0, t, rfl⟩
  · rw [step_nil]; simp only [rwS]; omega
  · rw [List.concat_eq_append]
    cases ht : bl t.2 s.1
    · rw [step_on _ _ _ ht, rwS_app, rwS_app]
      simp only [rwS]
      rcases mx_cases t.2 s.2 with h | h <;> rw [h] <;> omega
    · rw [step_new _ _ _ ht, rwS_app]
      simp only [rwS]; omega
theorem rwS_uniA (l acc : List Rw) : rwS (l.foldl stepU acc) ≤ rwS acc + rwS l := by
  induction l generalizing acc with
  | nil => simp only [List.foldl_nil, rwS]; omega
  | cons a l ih =>
    simp only [List.foldl_cons, rwS]
    have h1 := ih (stepU acc a)
    have h2 := rwS_step acc a
    omega
theorem rwS_cls (l : List Rw) : rwS (uniF (sortS (okU l))) ≤ rwS l := by
  have h1 := rwS_uniA (sortS (okU l)) []
  have h2 := rwS_perm (sortS_perm (okU l))
  have h3 := rwS_filter rowB l
  unfold uniF
  unfold okU at *
  simp only [rwS] at h1
  omega
theorem hd_ne {l : List UInt8} {y : UInt8} (h : (hdC l == [y]) = true) : (tlC l).length < l.length := by
  refine tl_len l (fun h0 => ?_)
  subst h0
  have := beq_iff_eq.1 h
  cases this
theorem hdtl_len (l : List UInt8) : (bsC (hdC l)).size + (tlC l).length = l.length := by
  rw [bsC_size]
  have := congrArg List.length (hd_tl l)
  rwa [List.length_append] at this
theorem escP_sz {c d : ByteArray} (h : escP c = some d) : (d.size ≤ 1 ∨ d = c) ∧ 0 < c.size := by
  have hc : (c.data.toList == []) = false → 0 < c.size := by
    intro h
    rcases Nat.eq_zero_or_pos c.size with h0 | h0
    · have h2 : c.data.toList = [] := List.eq_nil_of_length_eq_zero ((Array.length_toList).trans h0)
      rw [h2] at h; cases h
    · exact h0
  have ho : ∀ y : UInt8, (c.data.toList == [y]) = true → 0 < c.size := by
    intro y h
    refine hc ?_
    rw [beq_iff_eq.1 h]; rfl
  unfold escP at h
  split at h
  · rename_i q; injection h with h; subst h; exact ⟨.inl (by decide), ho _ q⟩
  split at h
  · rename_i q; injection h with h; subst h; exact ⟨.inl (by decide), ho _ q⟩
  split at h
  · rename_i q; injection h with h; subst h; exact ⟨.inl (by decide), ho _ q⟩
  split at h
  · rename_i q; injection h with h; subst h; exact ⟨.inl (by decide), ho _ q⟩
  split at h
  · rename_i q; injection h with h; subst h; exact ⟨.inl (by decide), ho _ q⟩
  split at h
  · cases h
  split at h
  · cases h
  · rename_i q _
    injection h with h
    exact ⟨.inr h.symm, hc (Bool.eq_false_iff.2 q)⟩
theorem itemP_sz {l : List UInt8} {L : List Rw} {c : ByteArray} {r : List UInt8} (h : itemP l = some (L, c, r)) :
    r.length < l.length ∧ c.size + r.length ≤ l.length ∧ rwS L + 6 * r.length ≤ 6 * l.length := by
  unfold itemP at h
  by_cases h1 : (hdC l == [92]) = true
  · rw [if_pos h1] at h
    have t1 := hd_ne h1
    have named : ∀ (y : UInt8) (K : List Rw), (hdC (tlC l) == [y]) = true → rwS K ≤ 12 → some (K, (⟨#[]⟩ : ByteArray), tlC (tlC l)) = some (L, c, r) → r.length < l.length ∧ c.size + r.length ≤ l.length ∧ rwS L + 6 * r.length ≤ 6 * l.length := by
      intro y K hy h4 he
      have t2 := hd_ne hy
      cases he
      exact ⟨by omega, by show 0 + _ ≤ _; omega, by omega⟩
    by_cases k0 : (hdC (tlC l) == [100]) = true
    · rw [if_pos k0] at h
      exact named 100 rD k0 (by decide) h
    rw [if_neg k0] at h
    by_cases k1 : (hdC (tlC l) == [119]) = true
    · rw [if_pos k1] at h
      exact named 119 rW k1 (by decide) h
    rw [if_neg k1] at h
    by_cases k2 : (hdC (tlC l) == [115]) = true
    · rw [if_pos k2] at h
      exact named 115 rS k2 (by decide) h
    rw [if_neg k2] at h
    have t2 := tl_le (tlC l)
    have hs2 := hdtl_len (tlC l)
    obtain ⟨z, hz⟩ : ∃ z, escP (bsC (hdC (tlC l))) = z := ⟨_, rfl⟩
    rw [hz] at h
    rcases z with _ | z
    · cases h
    · have h2 : ([] : List Rw) = L ∧ z = c ∧ tlC (tlC l) = r := by simpa using h
      obtain ⟨rfl, rfl, rfl⟩ := h2
      obtain ⟨h3, h4⟩ := escP_sz hz
      refine ⟨by omega, ?_, by simp only [rwS]; omega⟩
      rcases h3 with h3 | rfl <;> omega
  · rw [if_neg h1] at h
    by_cases h2 : (hdC l == []) = true
    · rw [if_pos h2] at h; cases h
    · rw [if_neg h2] at h
      cases h
      have hs := hdtl_len l
      have ht := tl_len l (fun h0 => h2 (by subst h0; rfl))
      exact ⟨ht, by omega, by simp only [rwS]; omega⟩
theorem rowsP_sz {l : List UInt8} {L : List Rw} {r : List UInt8} (h : rowsP l = some (L, r)) : r.length < l.length ∧ rwS L + 6 * r.length ≤ 6 * l.length := by
  unfold rowsP at h
  split at h
  · cases h
  · rename_i L1 c r1 h1
    obtain ⟨a1, a2, a3⟩ := itemP_sz h1
    by_cases hc : c.size = 0
    · rw [if_pos hc] at h
      cases h
      exact ⟨a1, a3⟩
    · rw [if_neg hc] at h
      by_cases hq : rngP r1 = true
      · rw [if_pos hq] at h
        split at h
        · cases h
        · rename_i L2 d r2 h2
          obtain ⟨c1, c2, c3⟩ := itemP_sz h2
          have t1 := tl_le r1
          split at h
          · cases h
          · cases h
            exact ⟨by omega, by simp only [rwS]; omega⟩
      · rw [if_neg hq] at h
        cases h
        exact ⟨a1, by simp only [rwS]; omega⟩
theorem clsP_sz : ∀ (f : Nat) (acc : List Rw) (l : List UInt8) (L : List Rw) (r : List UInt8), clsP f acc l = some (L, r) → r.length < l.length ∧ rwS L + 6 * r.length ≤ rwS acc + 6 * l.length
  | 0, _, _, _, _, h => by cases h
  | f + 1, acc, l, L, r, h => by
    rw [clsP] at h
    by_cases h1 : (hdC l == [93]) = true
    · rw [if_pos h1] at h
      cases h
      have := hd_ne h1
      exact ⟨this, by omega⟩
    · rw [if_neg h1] at h
      split at h
      · cases h
      · rename_i L1 r1 h2
        obtain ⟨a1, a2⟩ := rowsP_sz h2
        obtain ⟨b1, b2⟩ := clsP_sz f _ _ _ _ h
        rw [rwS_app] at b2
        exact ⟨by omega, by omega⟩
def Gd (d k : Nat) (l : List UInt8) : Res → Prop
  | .no => False
  | .err n => n = 8 ∨ n = 10
  | .ok x r => r.length + d ≤ l.length ∧ sM x + 8 * r.length ≤ 8 * l.length + k ∧ er x = x
theorem er_leaf (t : Rt) (h1 : t.rv = .slice none 0 0) (h2 : t.kv = .slice none 0 0) (h3 : t.kids = []) : er t = t := by
  rw [er_eq, h3]
  cases t
  simp only [Rt.rv, Rt.kv, Rt.kids] at h1 h2 h3
  subst h1 h2 h3
  rfl
theorem sM_kd (k : Int) (l : List Rt) : sM (kdX k l) = 1 + sL l := by rw [sM_eq]; show 1 + 0 + 0 + sL l = _; omega
theorem er_kd (k : Int) (l : List Rt) (h : l.map er = l) : er (kdX k l) = kdX k l := by
  rw [er_eq]; show kdX k (l.map er) = _; rw [h]
theorem bak_gd (l : List UInt8) : Gd 1 8 l (bakP l) := by
  have lf : ∀ (y : UInt8) (t : Rt), (hdC l == [y]) = true → sM t ≤ 13 → er t = t → Gd 1 8 l (.ok t (tlC l)) := by
    intro y t hy ht he
    have := hd_ne hy
    exact ⟨by omega, by omega, he⟩
  unfold bakP
  split
  · rename_i q; exact lf _ _ q (by decide) (er_leaf _ rfl rfl rfl)
  split
  · rename_i q; exact lf _ _ q (by decide) (er_leaf _ rfl rfl rfl)
  split
  · rename_i q; exact lf _ _ q (by decide) (er_leaf _ rfl rfl rfl)
  split
  · rename_i q; exact lf _ _ q (by decide) (er_leaf _ rfl rfl rfl)
  split
  · rename_i q; exact lf _ _ q (by decide) (er_leaf _ rfl rfl rfl)
  split
  · rename_i q; exact lf _ _ q (by decide) (er_leaf _ rfl rfl rfl)
  split
  · rename_i q; exact lf _ _ q (by decide) (er_leaf _ rfl rfl rfl)
  split
  · rename_i q; exact lf _ _ q (by decide) (er_leaf _ rfl rfl rfl)
  split
  · exact .inr rfl
  · rename_i d hd
    obtain ⟨h1, h2⟩ := escP_sz hd
    have h3 := hdtl_len l
    refine ⟨by omega, ?_, er_leaf _ rfl rfl rfl⟩
    rw [sM_eq]
    show 1 + d.size + 0 + 0 + _ ≤ _
    rcases h1 with h1 | h1
    · omega
    · rw [h1]; omega
theorem class_gd (l : List UInt8) : Gd 1 1 l (classP l) := by
  unfold classP
  split
  · exact .inr rfl
  · rename_i L r h
    obtain ⟨h1, h2⟩ := clsP_sz _ _ _ _ _ h
    have h3 : (if (hdC l == [94]) = true then tlC l else l).length ≤ l.length := by split; exact tl_le l; exact Nat.le_refl _
    have h4 := rwS_cls L
    refine ⟨by omega, ?_, er_leaf _ rfl rfl rfl⟩
    rw [sM_eq]
    show 1 + 0 + rwS (uniF (sortS (okU L))) + 0 + _ ≤ _
    simp only [rwS] at h2
    omega
theorem numR_le : ∀ (f n k : Nat) (l : List UInt8), (numR f n k l).2.2.length ≤ l.length
  | 0, _, _, l => Nat.le_refl _
  | f + 1, n, k, l => by
    rw [numR]
    split
    · split
      · exact Nat.le_trans (numR_le f _ _ _) (tl_le l)
      · exact Nat.le_refl _
    · exact Nat.le_refl _
theorem bndP_le {l : List UInt8} {n : Nat} {m : Int} {r : List UInt8} (h : bndP l = some (n, m, r)) : r.length ≤ l.length := by
  unfold bndP at h
  have h1 := numR_le 4 0 0 l
  have h2 := tl_le (numR 4 0 0 l).2.2
  have h3 := tl_le (tlC (numR 4 0 0 l).2.2)
  have h4 := numR_le 4 0 0 (tlC (numR 4 0 0 l).2.2)
  have h5 := tl_le (numR 4 0 0 (tlC (numR 4 0 0 l).2.2)).2.2
  simp only at h
  split at h
  · split at h
    · split at h
      · cases h; omega
      · split at h
        · cases h; omega
        · cases h
    · split at h
      · cases h; omega
      · cases h
  · cases h
theorem er_rep {mi ma : Int} {lz : Bool} {x : Rt} (h : er x = x) : er (repX mi ma lz x) = repX mi ma lz x := by
  rw [er_eq]
  show repX mi ma lz (er x) = _
  rw [h]
theorem laz_gd (mi ma : Int) (x : Rt) (l : List UInt8) (he : er x = x) : ∃ y r, lazP mi ma x l = .ok y r ∧ r.length ≤ l.length ∧ sM y = 1 + sM x ∧ er y = y := by
  refine ⟨_, _, rfl, ?_, ?_, er_rep he⟩
  · split; exact tl_le l; exact Nat.le_refl _
  · rw [sM_eq]; show 1 + 0 + 0 + (sM x + 0) = _; omega
theorem qnt_gd (x : Rt) (l : List UInt8) (he : er x = x) : (∃ n, qntP x l = .err n ∧ (n = 8 ∨ n = 10)) ∨ ∃ y r, qntP x l = .ok y r ∧ r.length ≤ l.length ∧ sM y + 8 * r.length ≤ sM x + 8 * l.length ∧ er y = y := by
  have go : ∀ (mi ma : Int) (r0 : List UInt8), r0.length < l.length → ∃ y r, lazP mi ma x r0 = .ok y r ∧ r.length ≤ l.length ∧ sM y + 8 * r.length ≤ sM x + 8 * l.length ∧ er y = y := by
    intro mi ma r0 h
    obtain ⟨y, r, h1, h2, h3, h4⟩ := laz_gd mi ma x r0 he
    exact ⟨y, r, h1, by omega, by omega, h4⟩
  unfold qntP
  split
  · rename_i q; exact .inr (go _ _ _ (hd_ne q))
  split
  · rename_i q; exact .inr (go _ _ _ (hd_ne q))
  split
  · rename_i q; exact .inr (go _ _ _ (hd_ne q))
  split
  · rename_i q
    split
    · exact .inl ⟨_, rfl, .inr rfl⟩
    · rename_i n m r hb
      have h1 := bndP_le hb
      have h2 := hd_ne q
      exact .inr (go _ _ _ (by omega))
  · exact .inr ⟨x, l, rfl, Nat.le_refl _, Nat.le_refl _, he⟩
theorem grpE_gd {k : Int} {l : List UInt8} {q : Res} (h : Gd 0 2 l q) : Gd 1 0 l (grpE k q) := by
  cases q with
  | no => exact h
  | err n => exact h
  | ok x r =>
    obtain ⟨h1, h2, h3⟩ := h
    simp only [grpE]
    split
    · rename_i q
      have := hd_ne q
      refine ⟨by omega, ?_, er_kd _ _ (by simp [h3])⟩
      rw [sM_kd]; simp only [sL]; omega
    · exact .inr rfl
theorem Gd.mono {d k d' k' : Nat} {l m : List UInt8} {q : Res} (h : Gd d k l q) (h1 : l.length + d' ≤ m.length + d) (h2 : 8 * l.length + k ≤ 8 * m.length + k') : Gd d' k' m q := by
  cases q with
  | no => exact h
  | err n => exact h
  | ok x r =>
    obtain ⟨a1, a2, a3⟩ := h
    exact ⟨by omega, by omega, a3⟩
theorem grp_gd {deep : Bool} {pat : List UInt8 → Res} (hp : deep = false → ∀ l, Gd 0 2 l (pat l)) (l : List UInt8) : Gd 0 0 l (grpP deep pat l) := by
  unfold grpP
  split
  · exact .inl rfl
  · rename_i q
    have hp := hp (Bool.eq_false_iff.2 q)
    split
    · rename_i q1
      have h1 := hd_ne q1
      split
      · rename_i q2
        have h2 := hd_ne q2
        exact (grpE_gd (hp _)).mono (by omega) (by omega)
      · exact .inr rfl
    · exact (grpE_gd (hp _)).mono (by omega) (by omega)
theorem atom_gd {deep : Bool} {pat : List UInt8 → Res} (hp : deep = false → ∀ l, Gd 0 2 l (pat l)) (l : List UInt8) (hl : l ≠ []) : Gd 1 0 l (atomP deep pat l) := by
  have ht := tl_len l hl
  unfold atomP
  split
  · exact ⟨by omega, by rw [sM_kd]; simp only [sL]; omega, er_leaf _ rfl rfl rfl⟩
  split
  · exact (grp_gd hp _).mono (by omega) (by omega)
  split
  · exact (class_gd _).mono (by omega) (by omega)
  split
  · exact (bak_gd _).mono (by omega) (by omega)
  split
  · exact .inr rfl
  split
  · exact .inr rfl
  split
  · exact .inr rfl
  split
  · exact .inr rfl
  · have h3 := hdtl_len l
    refine ⟨by omega, ?_, er_leaf _ rfl rfl rfl⟩
    rw [sM_eq]
    show 1 + (bsC (hdC l)).size + 0 + 0 + _ ≤ _
    omega
theorem term_gd {deep : Bool} {pat : List UInt8 → Res} (hp : deep = false → ∀ l, Gd 0 2 l (pat l)) (l : List UInt8) (hl : l ≠ []) : Gd 1 0 l (termP deep pat l) := by
  have ht := tl_len l hl
  unfold termP
  split
  · exact ⟨by omega, by rw [sM_kd]; simp only [sL]; omega, er_leaf _ rfl rfl rfl⟩
  split
  · exact ⟨by omega, by rw [sM_kd]; simp only [sL]; omega, er_leaf _ rfl rfl rfl⟩
  have ha := atom_gd hp l hl
  split
  · rename_i q; rw [q] at ha; exact ha
  · rename_i q; rw [q] at ha; exact ha
  · rename_i x r q
    rw [q] at ha
    split
    · exact ha
    · obtain ⟨h1, h2, h3⟩ := ha
      rcases qnt_gd x r h3 with ⟨n, e, hn⟩ | ⟨y, r2, e, a1, a2, a3⟩
      · rw [e]; exact hn
      · rw [e]; exact ⟨by omega, by omega, a3⟩
theorem flK_sz (k : Int) (l : List Rt) : sL (flK k l) ≤ sL l := by
  induction l with
  | nil => exact Nat.le_refl _
  | cons a r ih =>
    unfold flK at ih ⊢
    rw [List.flatMap_cons, sL_app]
    simp only [sL]
    split
    · have h1 : sL (a.kids.map er) = sL a.kids := by rw [← erL_map]; exact sL_er _
      have h2 := sM_eq a
      omega
    · simp only [sL]
      have h1 := sM_er a
      omega
theorem flK_ers (k : Int) (l : List Rt) : (flK k l).map er = flK k l := by
  induction l with
  | nil => rfl
  | cons a r ih =>
    unfold flK at ih ⊢
    rw [List.flatMap_cons, List.map_append, ih]
    congr 1
    split
    · rw [List.map_map]; exact List.map_congr_left (fun x _ => er_er x)
    · simp [er_er]
theorem seqX_gd (l : List Rt) (h : l.map er = l) : sM (seqX l) ≤ 1 + sL l ∧ er (seqX l) = seqX l := by
  unfold seqX
  split
  · rename_i hl
    match l, hl with
    | [a], _ =>
      refine ⟨by simp only [sL]; show sM a ≤ _; omega, ?_⟩
      show er a = a
      simpa using h
  · exact ⟨by rw [sM_kd]; omega, er_kd _ _ h⟩
theorem altX_gd (l : List Rt) (h : l.map er = l) : sM (altX l) ≤ 1 + sL l ∧ er (altX l) = altX l := by
  unfold altX
  split
  · exact ⟨by rw [sM_kd]; simp only [sL]; omega, er_kd _ _ rfl⟩
  split
  · rename_i hl
    match l, hl with
    | [a], _ =>
      refine ⟨by simp only [sL]; show sM a ≤ _; omega, ?_⟩
      show er a = a
      simpa using h
  · exact ⟨by rw [sM_kd]; omega, er_kd _ _ h⟩
theorem terms_gd {deep : Bool} {pat : List UInt8 → Res} (hp : deep = false → ∀ l, Gd 0 2 l (pat l)) : ∀ (n : Nat) (acc : List Rt) (l : List UInt8), l.length < n → Gd 0 (sL acc + 1) l (termsP deep pat n acc l)
  | 0, _, _, h => absurd h (Nat.not_lt_zero _)
  | n + 1, acc, l, h => by
    rw [termsP]
    split
    · obtain ⟨h1, h2⟩ := seqX_gd (flK 0 acc) (flK_ers 0 acc)
      have h3 := flK_sz 0 acc
      exact ⟨by omega, by omega, h2⟩
    · rename_i q
      have hl : l ≠ [] := by rintro rfl; exact q rfl
      have ht := term_gd hp l hl
      split
      · rename_i e; rw [e] at ht; exact ht
      · rename_i e; rw [e] at ht; exact ht
      · rename_i x r e
        rw [e] at ht
        obtain ⟨a1, a2, a3⟩ := ht
        refine (terms_gd hp n (acc ++ [x]) r (by omega)).mono (by omega) ?_
        rw [sL_app]; simp only [sL]; omega
theorem alts_gd {deep : Bool} {pat : List UInt8 → Res} (hp : deep = false → ∀ l, Gd 0 2 l (pat l)) : ∀ (n : Nat) (acc : List Rt) (l : List UInt8), l.length < n → Gd 0 (sL acc + 2) l (altsP deep pat n acc l)
  | 0, _, _, h => absurd h (Nat.not_lt_zero _)
  | n + 1, acc, l, h => by
    rw [altsP]
    have ht := terms_gd hp (l.length + 1) [] l (Nat.lt_succ_self _)
    simp only [sL] at ht
    split
    · rename_i e; rw [e] at ht; exact ht
    · rename_i e; rw [e] at ht; exact ht
    · rename_i x r e
      rw [e] at ht
      obtain ⟨a1, a2, a3⟩ := ht
      split
      · rename_i q
        have := hd_ne q
        refine (alts_gd hp n (acc ++ [x]) (tlC r) (by omega)).mono (by omega) ?_
        rw [sL_app]; simp only [sL]; omega
      · obtain ⟨h1, h2⟩ := altX_gd (flK 1 (acc ++ [x])) (flK_ers 1 _)
        have h3 := flK_sz 1 (acc ++ [x])
        rw [sL_app] at h3
        simp only [sL] at h3
        exact ⟨by omega, by omega, h2⟩
theorem pat_gd : ∀ (f : Nat) (l : List UInt8), Gd 0 2 l (patP (f + 1) l)
  | 0, l => by
    have := alts_gd (deep := true) (pat := patP 0) (fun h => by cases h) (l.length + 1) [] l (Nat.lt_succ_self _)
    exact this.mono (by omega) (by simp only [sL]; omega)
  | f + 1, l => by
    have := alts_gd (deep := (f + 1 == 0)) (pat := patP (f + 1)) (fun _ => pat_gd f) (l.length + 1) [] l (Nat.lt_succ_self _)
    exact this.mono (by omega) (by simp only [sL]; omega)
end
section
open Go.ChangeShapes Go.WideShapes Go.ChangeAt Go.RowKit
set_option maxRecDepth 100000
set_option linter.unusedVariables false
structure PlG (w : World) (b : Nat) (s : ByteArray) (l : List UInt8) (g : Nat) : Prop where
  pl : Pl w b s l
  gr : w.cell? ⟨b, 2, none⟩ = some (.int .i64 g)
  gf : w.frozen? ⟨b, 2, none⟩ = false
theorem PlG.bl {w w' : World} {b g : Nat} {s : ByteArray} {l : List UInt8} (h : PlG w b s l g) (hb : Below w.heap.size w w') : PlG w' b s l g :=
  ⟨h.pl.bl hb, cell_later hb h.gr, (hb.frozen (p := ⟨b, 2, none⟩) (show b < w.heap.size from World.block_lt_of_cell? _ _ h.gr)).trans h.gf⟩
theorem Mv.plg {w w' : World} {b g : Nat} {s : ByteArray} {l l' : List UInt8} (h : Mv w w' b s l') (h0 : PlG w b s l g) : PlG w' b s l' g :=
  ⟨h.pl h0.pl, (h.1.cells 2 (by omega)).trans h0.gr, (h.1.froz 2).trans h0.gf⟩
theorem PlG.up {w : World} {b g : Nat} {s : ByteArray} {l : List UInt8} (h : PlG w b s l g) (g' : Nat) : PlG (w.setCell ⟨b, 2, none⟩ (.int .i64 g')) b s l g' := by
  obtain ⟨⟨⟨h1, h2⟩, h3, h4, h5⟩, h6, h7⟩ := h
  refine ⟨⟨⟨?_, ?_⟩, ?_, h4, h5⟩, World.cell?_setCell_same _ _ _ h6, ?_⟩
  · rw [World.cell?_setCell_other _ _ _ _ (fun e => by injection e with _ e; omega)]; exact h1
  · rw [World.cell?_setCell_other _ _ _ _ (fun e => by injection e with _ e; omega)]; exact h2
  · rw [World.frozen?_setCell]; exact h3
  · rw [World.frozen?_setCell]; exact h7
theorem grp_back {w w1 w2 : World} {b g : Nat} {s : ByteArray} {l r : List UInt8} {u : Value} (h : Mv w w1 b s l) (hg : w.cell? ⟨b, 2, none⟩ = some (.int .i64 g)) (hm : Mv (w1.setCell ⟨b, 2, none⟩ u) w2 b s r) : Mv w (w2.setCell ⟨b, 2, none⟩ (.int .i64 g)) b s r := by
  have h1 := h.1
  have h2 := hm.1
  have hg1 : w1.cell? ⟨b, 2, none⟩ = some (.int .i64 g) := (h1.cells 2 (by omega)).trans hg
  have hg2 : w2.cell? ⟨b, 2, none⟩ = some u := (h2.cells 2 (by omega)).trans (World.cell?_setCell_same _ _ _ hg1)
  have gs : w.grownBy (w1.setCell ⟨b, 2, none⟩ u) (some b) := grown_set h1.grown 2 u
  have g2 : w.grownBy w2 (some b) := ⟨h2.grown.os.trans gs.os, h2.grown.tape.trans gs.tape, h2.grown.output.trans gs.output, Nat.le_trans gs.size h2.grown.size, fun i hi hn => (h2.grown.block i (Nat.lt_of_lt_of_le hi gs.size) hn).trans (gs.block i hi hn)⟩
  refine ⟨⟨grown_set g2 2 _, fun q hq => ?_, ?_, fun q => ?_⟩, hm.2⟩
  · by_cases hq2 : q = 2
    · subst hq2
      rw [hg]; exact World.cell?_setCell_same _ _ _ hg2
    · rw [World.cell?_setCell_other _ _ _ _ (fun e => by injection e with _ e; omega), h2.cells q hq, World.cell?_setCell_other _ _ _ _ (fun e => by injection e with _ e; omega), h1.cells q hq]
  · rw [World.cell?_setCell_other _ _ _ _ (fun e => by injection e with _ e; omega)]; exact h2.pos
  · rw [World.frozen?_setCell, h2.froz q, World.frozen?_setCell, h1.froz q]
end
section
open Go.ChangeShapes Go.WideShapes Go.ChangeAt Go.RowKit
open SetM
attribute [local go_sem ↓] Go.wp_at_zero Go.wp_at_succ
set_option maxRecDepth 100000
set_option linter.unusedVariables false
theorem plg_up {w : World} {b g : Nat} {s : ByteArray} {l : List UInt8} (h : PlG w b s l g) : PlG (w.setCell ⟨b, 2, none⟩ (.int .i64 ((g : Int) + 1))) b s l (g + 1) := h.up (g + 1)
theorem trp_le {N : Nat} {w w' : World} {b : Nat} {s : ByteArray} {q : Res} {e : Ending} (h : TrPostN N w b s q e w') (hN : w.heap.size ≤ N) : TrPost w b s q e w' := by
  cases q with
  | no => exact h
  | err n => exact h
  | ok x r => obtain ⟨t, h1, h2, h3, h4, h5⟩ := h; exact ⟨t, h1, h2, h3, h4.mono hN, h5⟩
theorem grp_end {N : Nat} {w u W : World} {b g : Nat} {k : Int} {s : ByteArray} {r : List UInt8} {t : Rt} (hm : Mv w W b s r) (ht : RxAt u t) (hk : Kept N u W) (hf : Fr N t) (hg : N ≤ g) (hc : ∀ j u, t.cs[j]? = some u → W.cell? ⟨g, j, none⟩ = some u) :
    TrPostN N w b s (.ok (kdX k [er t]) r) (.returned (.tuple #[.agg #[.int .i64 k, .string ⟨#[]⟩, .bool false, .slice none 0 0, .int .i64 0, .int .i64 0, .bool false, .slice (some ⟨g, 0, none⟩) 1 1], .int .i64 0])) W := by
  refine ⟨.mk k ⟨#[]⟩ false (.slice none 0 0) [] 0 0 false (.slice (some ⟨g, 0, none⟩) 1 1) [t], rfl, hm, .mk _ (.inl ⟨rfl, rfl⟩) (ks1 hc) (fun i hi => ?_), .mk _ (frv0 _) (fun x len c e => ?_) (fun x hx => ?_), ?_⟩
  · have : i = 0 := by have : i < 1 := hi; omega
    subst this
    exact rx_kept ht hf hk
  · injection e with e; injection e with e; subst e; exact hg
  · have : x = t := by simpa using (show x ∈ [t] from hx)
    subst this; exact hf
  · rw [er_eq]; rfl
theorem back_cell {w w3 : World} {b : Nat} {s : ByteArray} {r : List UInt8} {u v : Value} {g o : Nat} (hm : Mv w (w3.setCell ⟨b, 2, none⟩ u) b s r) (hb : g ≠ b) (hc : w.cell? ⟨g, o, none⟩ = some v) : w3.cell? ⟨g, o, none⟩ = some v := by
  have := hm.cell hc hb
  rwa [World.cell?_setCell_other _ _ _ _ (fun e => hb (by injection e with e; exact e.symm))] at this
theorem kept_set_b (w : World) {b n : Nat} (hb : b < n) (u : Value) : Kept n w (w.setCell ⟨b, 2, none⟩ u) := kept_set w hb u
set_option maxHeartbeats 16000000 in
theorem group_any {w : World} {b g : Nat} {s : ByteArray} {l : List UInt8} (h : PlG w b s l g) (hg : g ≤ 16) (pat : List UInt8 → Res) (hgd : g < 16 → ∀ l, Gd 0 2 l (pat l))
    (HPAT : g < 16 → ∀ W l', PlG W b s l' (g + 1) → Calls Tryz.prog 11 #[.pointer (some ⟨b, 0, none⟩)] W (TrPost W b s (pat l')))
    (res : Res) (ho : grpP (g == 16) pat l = res) : Calls Tryz.prog 79 #[.pointer (some ⟨b, 0, none⟩)] w (TrPost w b s res) := by
  have hbw : b < w.heap.size := World.block_lt_of_cell? _ _ h.gr
  have HS := hide h
  have HNB := hide (show w.heap.size ≠ b by omega)
  have HBW := hide hbw
  have HP0 := hide (show PlG (w.alloc (.cells #[.int .i64 0, .string ⟨#[]⟩, .bool false, .slice none 0 0, .int .i64 0, .int .i64 0, .bool false, .slice none 0 0] 25)) b s l g from h.bl (bl_alloc (bl_refl w) _))
  have hgr := HP0.out.gr
  have hgf := HP0.out.gf
  unfold grpP at ho
  by_cases hg16 : g = 16
  · subst hg16
    rw [if_pos (by decide)] at ho
    subst ho
    have M0 := hide (HP0.out.pl.self (bl_refl _))
    clear h
    have c2 := HS.out.gr
    go_enter Tryz.func79, Tryz.ntmps79
    go_wp2
    refine bodyPost_ret (v := .tuple #[.agg #[.int .i64 0, .string ⟨#[]⟩, .bool false, .slice none 0 0, .int .i64 0, .int .i64 0, .bool false, .slice none 0 0], .int .i64 8]) ?_ rfl ⟨rfl, _, HS.out.pl.self (bl_alloc (bl_refl w) _)⟩
    rw [results_cell2 rfl]
    go_simp
  · have g16 : ((g : Int) == 16) = false := by rw [Bool.eq_false_iff]; intro h; have := beq_iff_eq.1 h; omega
    have g16' : (g == 16) = false := by rw [Bool.eq_false_iff]; intro h; exact hg16 (beq_iff_eq.1 h)
    rw [g16', if_neg (by decide)] at ho
    have HPT := hide (HPAT (by omega))
    have HGD := hide (hgd (by omega))
    have c2 := HS.out.gr
    have e1 : IntKind.i64.wrap ((g : Int) + 1) = (g : Int) + 1 := by rw [IntKind.wrap_i64]; omega
    have e2 : IntKind.i64.wrap ((g : Int) + 1 - 1) = (g : Int) := by rw [IntKind.wrap_i64]; omega
    have e3 : IntKind.i64.wrap (g : Int) = (g : Int) := by rw [IntKind.wrap_i64]; omega
    clear h HPAT hgd hg16 hg hbw
    rcases hq1 : (hdC l == [63]) with _ | _
    · rw [hq1, if_neg (by decide)] at ho
      have HT1 := hide (pos_take HP0.out.pl ⟨#[63]⟩ false hq1)
      clear hq1
      obtain ⟨l2, hl2⟩ : ∃ l2, l = l2 := ⟨_, rfl⟩
      rw [hl2] at ho
      obtain ⟨p, hp⟩ : ∃ p, pat l2 = p := ⟨_, rfl⟩
      have hgp := HGD.out l2
      rw [hp] at hgp ho
      have HPC := hide (fun W (h : PlG W b s l2 (g + 1)) => (by have := HPT.out W l2 h; rw [hp] at this; exact this : Calls Tryz.prog 11 #[.pointer (some ⟨b, 0, none⟩)] W (TrPost W b s p)))
      clear hp
      rcases p with _ | n | ⟨x, r⟩
      · exact absurd hgp (fun h => h)
      · simp only [grpE] at ho
        subst ho
        rcases hgp with rfl | rfl
        · go_enter Tryz.func79, Tryz.ntmps79
          go_wp2_with fail
          refine HT1.out.mono ?_
          rintro e w1 ⟨rfl, hm⟩
          have M1 : Hid (Mv (w.alloc (.cells #[.int .i64 0, .string ⟨#[]⟩, .bool false, .slice none 0 0, .int .i64 0, .int .i64 0, .bool false, .slice none 0 0] 25)) w1 b s l) := hide hm
          clear hm
          have M : Hid (Mv (w.alloc (.cells #[.int .i64 0, .string ⟨#[]⟩, .bool false, .slice none 0 0, .int .i64 0, .int .i64 0, .bool false, .slice none 0 0] 25)) w1 b s l2) := hide (by rw [← hl2]; exact M1.out)
          have HG := hide (M1.out.plg HP0.out)
          have d2 := HG.out.gr
          have df := HG.out.gf
          have HGU2 := hide (plg_up (M.out.plg HP0.out))
          clear hl2
          go_wp2_with fail
          refine (HPC.out _ (HGU2.out)).mono ?_
          rintro e w3 ⟨rfl, r3, hm3⟩
          have HM := hide (grp_back M.out HP0.out.gr hm3)
          have hne1 : b ≠ w.heap.size := fun e => HNB.out e.symm
          have hne2 : w.heap.size ≠ b := HNB.out
          have q2 : w3.cell? ⟨b, 2, none⟩ = some (.int .i64 ((g : Int) + 1)) := (hm3.1.cells 2 (by omega)).trans (HGU2.out.gr)
          have qf : w3.frozen? ⟨b, 2, none⟩ = false := (hm3.1.froz 2).trans (HGU2.out.gf)
          have qb : b < w3.heap.size := hm3.1.lt
          have z0 : w3.cell? ⟨w.heap.size, 0, none⟩ = some (.int .i64 0) := (back_cell HM.out HNB.out (cells_lit w _ _ 0 _ rfl))
          have z1 : w3.cell? ⟨w.heap.size, 1, none⟩ = some (.string ⟨#[]⟩) := (back_cell HM.out HNB.out (cells_lit w _ _ 1 _ rfl))
          have z2 : w3.cell? ⟨w.heap.size, 2, none⟩ = some (.bool false) := (back_cell HM.out HNB.out (cells_lit w _ _ 2 _ rfl))
          have z3 : w3.cell? ⟨w.heap.size, 3, none⟩ = some (.slice none 0 0) := (back_cell HM.out HNB.out (cells_lit w _ _ 3 _ rfl))
          have z4 : w3.cell? ⟨w.heap.size, 4, none⟩ = some (.int .i64 0) := (back_cell HM.out HNB.out (cells_lit w _ _ 4 _ rfl))
          have z5 : w3.cell? ⟨w.heap.size, 5, none⟩ = some (.int .i64 0) := (back_cell HM.out HNB.out (cells_lit w _ _ 5 _ rfl))
          have z6 : w3.cell? ⟨w.heap.size, 6, none⟩ = some (.bool false) := (back_cell HM.out HNB.out (cells_lit w _ _ 6 _ rfl))
          have z7 : w3.cell? ⟨w.heap.size, 7, none⟩ = some (.slice none 0 0) := (back_cell HM.out HNB.out (cells_lit w _ _ 7 _ rfl))
          have hf3 : ∀ o, w3.frozen? ⟨w.heap.size, o, none⟩ = false := fun o => by
            have := (HM.out.frz (p := ⟨w.heap.size, o, none⟩) (by simp) HNB.out)
            rw [World.frozen?_setCell] at this
            exact this.trans (by go_simp)
          have hs3 : w.heap.size < w3.heap.size := by have := HM.out.fr; simp at this; omega
          rw [show rt0.v = .agg #[.int .i64 0, .string ⟨#[]⟩, .bool false, .slice none 0 0, .int .i64 0, .int .i64 0, .bool false, .slice none 0 0] from rfl]
          clear hm3
          go_wp2
          refine bodyPost_ret (v := .tuple #[.agg #[.int .i64 0, .string ⟨#[]⟩, .bool false, .slice none 0 0, .int .i64 0, .int .i64 0, .bool false, .slice none 0 0], .int .i64 8]) ?_ rfl ⟨rfl, _, (mv8 ((HS.out.pl.self (bl_alloc (bl_refl w) _)).trans HM.out) HNB.out (Nat.le_refl _) _ _ _ _ _ _ _ _ _ _ _ _ _ _ _ _).bl (bl_alloc (bl_refl _) _)⟩
          rw [results_cell2 rfl]
          go_simp
        · go_enter Tryz.func79, Tryz.ntmps79
          go_wp2_with fail
          refine HT1.out.mono ?_
          rintro e w1 ⟨rfl, hm⟩
          have M1 : Hid (Mv (w.alloc (.cells #[.int .i64 0, .string ⟨#[]⟩, .bool false, .slice none 0 0, .int .i64 0, .int .i64 0, .bool false, .slice none 0 0] 25)) w1 b s l) := hide hm
          clear hm
          have M : Hid (Mv (w.alloc (.cells #[.int .i64 0, .string ⟨#[]⟩, .bool false, .slice none 0 0, .int .i64 0, .int .i64 0, .bool false, .slice none 0 0] 25)) w1 b s l2) := hide (by rw [← hl2]; exact M1.out)
          have HG := hide (M1.out.plg HP0.out)
          have d2 := HG.out.gr
          have df := HG.out.gf
          have HGU2 := hide (plg_up (M.out.plg HP0.out))
          clear hl2
          go_wp2_with fail
          refine (HPC.out _ (HGU2.out)).mono ?_
          rintro e w3 ⟨rfl, r3, hm3⟩
          have HM := hide (grp_back M.out HP0.out.gr hm3)
          have hne1 : b ≠ w.heap.size := fun e => HNB.out e.symm
          have hne2 : w.heap.size ≠ b := HNB.out
          have q2 : w3.cell? ⟨b, 2, none⟩ = some (.int .i64 ((g : Int) + 1)) := (hm3.1.cells 2 (by omega)).trans (HGU2.out.gr)
          have qf : w3.frozen? ⟨b, 2, none⟩ = false := (hm3.1.froz 2).trans (HGU2.out.gf)
          have qb : b < w3.heap.size := hm3.1.lt
          have z0 : w3.cell? ⟨w.heap.size, 0, none⟩ = some (.int .i64 0) := (back_cell HM.out HNB.out (cells_lit w _ _ 0 _ rfl))
          have z1 : w3.cell? ⟨w.heap.size, 1, none⟩ = some (.string ⟨#[]⟩) := (back_cell HM.out HNB.out (cells_lit w _ _ 1 _ rfl))
          have z2 : w3.cell? ⟨w.heap.size, 2, none⟩ = some (.bool false) := (back_cell HM.out HNB.out (cells_lit w _ _ 2 _ rfl))
          have z3 : w3.cell? ⟨w.heap.size, 3, none⟩ = some (.slice none 0 0) := (back_cell HM.out HNB.out (cells_lit w _ _ 3 _ rfl))
          have z4 : w3.cell? ⟨w.heap.size, 4, none⟩ = some (.int .i64 0) := (back_cell HM.out HNB.out (cells_lit w _ _ 4 _ rfl))
          have z5 : w3.cell? ⟨w.heap.size, 5, none⟩ = some (.int .i64 0) := (back_cell HM.out HNB.out (cells_lit w _ _ 5 _ rfl))
          have z6 : w3.cell? ⟨w.heap.size, 6, none⟩ = some (.bool false) := (back_cell HM.out HNB.out (cells_lit w _ _ 6 _ rfl))
          have z7 : w3.cell? ⟨w.heap.size, 7, none⟩ = some (.slice none 0 0) := (back_cell HM.out HNB.out (cells_lit w _ _ 7 _ rfl))
          have hf3 : ∀ o, w3.frozen? ⟨w.heap.size, o, none⟩ = false := fun o => by
            have := (HM.out.frz (p := ⟨w.heap.size, o, none⟩) (by simp) HNB.out)
            rw [World.frozen?_setCell] at this
            exact this.trans (by go_simp)
          have hs3 : w.heap.size < w3.heap.size := by have := HM.out.fr; simp at this; omega
          rw [show rt0.v = .agg #[.int .i64 0, .string ⟨#[]⟩, .bool false, .slice none 0 0, .int .i64 0, .int .i64 0, .bool false, .slice none 0 0] from rfl]
          clear hm3
          go_wp2
          refine bodyPost_ret (v := .tuple #[.agg #[.int .i64 0, .string ⟨#[]⟩, .bool false, .slice none 0 0, .int .i64 0, .int .i64 0, .bool false, .slice none 0 0], .int .i64 10]) ?_ rfl ⟨rfl, _, (mv8 ((HS.out.pl.self (bl_alloc (bl_refl w) _)).trans HM.out) HNB.out (Nat.le_refl _) _ _ _ _ _ _ _ _ _ _ _ _ _ _ _ _).bl (bl_alloc (bl_refl _) _)⟩
          rw [results_cell2 rfl]
          go_simp
      · clear hgp
        simp only [grpE] at ho
        rcases hq3 : (hdC r == [41]) with _ | _
        · rw [hq3, if_neg (by decide)] at ho
          subst ho
          have HT3 := hide (fun W (hp : Pl W b s r) => pos_take hp ⟨#[41]⟩ false hq3)
          clear hq3
          go_enter Tryz.func79, Tryz.ntmps79
          go_wp2_with fail
          refine HT1.out.mono ?_
          rintro e w1 ⟨rfl, hm⟩
          have M1 : Hid (Mv (w.alloc (.cells #[.int .i64 0, .string ⟨#[]⟩, .bool false, .slice none 0 0, .int .i64 0, .int .i64 0, .bool false, .slice none 0 0] 25)) w1 b s l) := hide hm
          clear hm
          have M : Hid (Mv (w.alloc (.cells #[.int .i64 0, .string ⟨#[]⟩, .bool false, .slice none 0 0, .int .i64 0, .int .i64 0, .bool false, .slice none 0 0] 25)) w1 b s l2) := hide (by rw [← hl2]; exact M1.out)
          have HG := hide (M1.out.plg HP0.out)
          have d2 := HG.out.gr
          have df := HG.out.gf
          have HGU2 := hide (plg_up (M.out.plg HP0.out))
          clear hl2
          go_wp2_with fail
          refine (HPC.out _ (HGU2.out)).mono ?_
          rintro e w3 ⟨t, rfl, hm3, hrx, hfr, her⟩
          subst her
          have HM := hide (grp_back M.out HP0.out.gr hm3)
          have hne1 : b ≠ w.heap.size := fun e => HNB.out e.symm
          have hne2 : w.heap.size ≠ b := HNB.out
          have q2 : w3.cell? ⟨b, 2, none⟩ = some (.int .i64 ((g : Int) + 1)) := (hm3.1.cells 2 (by omega)).trans (HGU2.out.gr)
          have qf : w3.frozen? ⟨b, 2, none⟩ = false := (hm3.1.froz 2).trans (HGU2.out.gf)
          have qb : b < w3.heap.size := hm3.1.lt
          have z0 : w3.cell? ⟨w.heap.size, 0, none⟩ = some (.int .i64 0) := (back_cell HM.out HNB.out (cells_lit w _ _ 0 _ rfl))
          have z1 : w3.cell? ⟨w.heap.size, 1, none⟩ = some (.string ⟨#[]⟩) := (back_cell HM.out HNB.out (cells_lit w _ _ 1 _ rfl))
          have z2 : w3.cell? ⟨w.heap.size, 2, none⟩ = some (.bool false) := (back_cell HM.out HNB.out (cells_lit w _ _ 2 _ rfl))
          have z3 : w3.cell? ⟨w.heap.size, 3, none⟩ = some (.slice none 0 0) := (back_cell HM.out HNB.out (cells_lit w _ _ 3 _ rfl))
          have z4 : w3.cell? ⟨w.heap.size, 4, none⟩ = some (.int .i64 0) := (back_cell HM.out HNB.out (cells_lit w _ _ 4 _ rfl))
          have z5 : w3.cell? ⟨w.heap.size, 5, none⟩ = some (.int .i64 0) := (back_cell HM.out HNB.out (cells_lit w _ _ 5 _ rfl))
          have z6 : w3.cell? ⟨w.heap.size, 6, none⟩ = some (.bool false) := (back_cell HM.out HNB.out (cells_lit w _ _ 6 _ rfl))
          have z7 : w3.cell? ⟨w.heap.size, 7, none⟩ = some (.slice none 0 0) := (back_cell HM.out HNB.out (cells_lit w _ _ 7 _ rfl))
          have hf3 : ∀ o, w3.frozen? ⟨w.heap.size, o, none⟩ = false := fun o => by
            have := (HM.out.frz (p := ⟨w.heap.size, o, none⟩) (by simp) HNB.out)
            rw [World.frozen?_setCell] at this
            exact this.trans (by go_simp)
          have hs3 : w.heap.size < w3.heap.size := by have := HM.out.fr; simp at this; omega
          obtain ⟨tA, tc, htrv⟩ := rwat_len hrx.rows
          obtain ⟨tB, td, htkv⟩ := ksat_len hrx.ks
          have HCS := hide (show t.cs = [.int .i64 t.k, .string t.ch, .bool t.nt, .slice tA t.rows.length tc, .int .i64 t.mi, .int .i64 t.ma, .bool t.lz, .slice tB t.kids.length td] by unfold Rt.cs; rw [htrv, htkv])
          rw [show t.v = .agg #[.int .i64 t.k, .string t.ch, .bool t.nt, .slice tA t.rows.length tc, .int .i64 t.mi, .int .i64 t.ma, .bool t.lz, .slice tB t.kids.length td] by unfold Rt.v Rt.cs; rw [htrv, htkv]]
          have HRX := hide hrx
          have HFR := hide (hfr.mono (show w.heap.size + 1 ≤ (w1.setCell ⟨b, 2, none⟩ (.int .i64 ((g : Int) + 1))).heap.size by have := M.out.fr; simp at this ⊢; omega))
          have HNB3 := hide (show w3.heap.size ≠ b by omega)
          clear hm3 hrx hfr htrv htkv
          go_wp2_with fail
          refine (HT3.out _ ((HM.out.bl (bl_alloc (bl_refl _) _)).pl HP0.out.pl)).mono ?_
          rintro e w5 ⟨rfl, hm5⟩
          have M5 : Hid (Mv (w.alloc (.cells #[.int .i64 0, .string ⟨#[]⟩, .bool false, .slice none 0 0, .int .i64 0, .int .i64 0, .bool false, .slice none 0 0] 25)) w5 b s r) := hide ((HM.out.bl (bl_alloc (bl_refl _) _)).trans hm5)
          replace z0 : w5.cell? ⟨w.heap.size, 0, none⟩ = some (.int .i64 0) := M5.out.cell (cells_lit w _ _ 0 _ rfl) HNB.out
          replace z1 : w5.cell? ⟨w.heap.size, 1, none⟩ = some (.string ⟨#[]⟩) := M5.out.cell (cells_lit w _ _ 1 _ rfl) HNB.out
          replace z2 : w5.cell? ⟨w.heap.size, 2, none⟩ = some (.bool false) := M5.out.cell (cells_lit w _ _ 2 _ rfl) HNB.out
          replace z3 : w5.cell? ⟨w.heap.size, 3, none⟩ = some (.slice none 0 0) := M5.out.cell (cells_lit w _ _ 3 _ rfl) HNB.out
          replace z4 : w5.cell? ⟨w.heap.size, 4, none⟩ = some (.int .i64 0) := M5.out.cell (cells_lit w _ _ 4 _ rfl) HNB.out
          replace z5 : w5.cell? ⟨w.heap.size, 5, none⟩ = some (.int .i64 0) := M5.out.cell (cells_lit w _ _ 5 _ rfl) HNB.out
          replace z6 : w5.cell? ⟨w.heap.size, 6, none⟩ = some (.bool false) := M5.out.cell (cells_lit w _ _ 6 _ rfl) HNB.out
          replace z7 : w5.cell? ⟨w.heap.size, 7, none⟩ = some (.slice none 0 0) := M5.out.cell (cells_lit w _ _ 7 _ rfl) HNB.out
          replace hf3 : ∀ o, w5.frozen? ⟨w.heap.size, o, none⟩ = false := fun o => (M5.out.frz (p := ⟨w.heap.size, o, none⟩) (by simp) HNB.out).trans (by go_simp)
          have hs5 : w.heap.size < w5.heap.size := Nat.lt_of_lt_of_le (by simp) M5.out.fr
          clear hm5 q2 qf qb
          go_wp2
          refine bodyPost_ret (v := .tuple #[.agg #[.int .i64 0, .string ⟨#[]⟩, .bool false, .slice none 0 0, .int .i64 0, .int .i64 0, .bool false, .slice none 0 0], .int .i64 10]) ?_ rfl ⟨rfl, _, mv8 ((HS.out.pl.self (bl_alloc (bl_refl w) _)).trans M5.out) HNB.out (Nat.le_refl _) _ _ _ _ _ _ _ _ _ _ _ _ _ _ _ _⟩
          rw [results_cell2 rfl]
          go_simp
        · rw [hq3, if_pos rfl] at ho
          subst ho
          have HT3 := hide (fun W (hp : Pl W b s r) => pos_take hp ⟨#[41]⟩ true hq3)
          clear hq3
          go_enter Tryz.func79, Tryz.ntmps79
          go_wp2_with fail
          refine HT1.out.mono ?_
          rintro e w1 ⟨rfl, hm⟩
          have M1 : Hid (Mv (w.alloc (.cells #[.int .i64 0, .string ⟨#[]⟩, .bool false, .slice none 0 0, .int .i64 0, .int .i64 0, .bool false, .slice none 0 0] 25)) w1 b s l) := hide hm
          clear hm
          have M : Hid (Mv (w.alloc (.cells #[.int .i64 0, .string ⟨#[]⟩, .bool false, .slice none 0 0, .int .i64 0, .int .i64 0, .bool false, .slice none 0 0] 25)) w1 b s l2) := hide (by rw [← hl2]; exact M1.out)
          have HG := hide (M1.out.plg HP0.out)
          have d2 := HG.out.gr
          have df := HG.out.gf
          have HGU2 := hide (plg_up (M.out.plg HP0.out))
          clear hl2
          go_wp2_with fail
          refine (HPC.out _ (HGU2.out)).mono ?_
          rintro e w3 ⟨t, rfl, hm3, hrx, hfr, her⟩
          subst her
          have HM := hide (grp_back M.out HP0.out.gr hm3)
          have hne1 : b ≠ w.heap.size := fun e => HNB.out e.symm
          have hne2 : w.heap.size ≠ b := HNB.out
          have q2 : w3.cell? ⟨b, 2, none⟩ = some (.int .i64 ((g : Int) + 1)) := (hm3.1.cells 2 (by omega)).trans (HGU2.out.gr)
          have qf : w3.frozen? ⟨b, 2, none⟩ = false := (hm3.1.froz 2).trans (HGU2.out.gf)
          have qb : b < w3.heap.size := hm3.1.lt
          have z0 : w3.cell? ⟨w.heap.size, 0, none⟩ = some (.int .i64 0) := (back_cell HM.out HNB.out (cells_lit w _ _ 0 _ rfl))
          have z1 : w3.cell? ⟨w.heap.size, 1, none⟩ = some (.string ⟨#[]⟩) := (back_cell HM.out HNB.out (cells_lit w _ _ 1 _ rfl))
          have z2 : w3.cell? ⟨w.heap.size, 2, none⟩ = some (.bool false) := (back_cell HM.out HNB.out (cells_lit w _ _ 2 _ rfl))
          have z3 : w3.cell? ⟨w.heap.size, 3, none⟩ = some (.slice none 0 0) := (back_cell HM.out HNB.out (cells_lit w _ _ 3 _ rfl))
          have z4 : w3.cell? ⟨w.heap.size, 4, none⟩ = some (.int .i64 0) := (back_cell HM.out HNB.out (cells_lit w _ _ 4 _ rfl))
          have z5 : w3.cell? ⟨w.heap.size, 5, none⟩ = some (.int .i64 0) := (back_cell HM.out HNB.out (cells_lit w _ _ 5 _ rfl))
          have z6 : w3.cell? ⟨w.heap.size, 6, none⟩ = some (.bool false) := (back_cell HM.out HNB.out (cells_lit w _ _ 6 _ rfl))
          have z7 : w3.cell? ⟨w.heap.size, 7, none⟩ = some (.slice none 0 0) := (back_cell HM.out HNB.out (cells_lit w _ _ 7 _ rfl))
          have hf3 : ∀ o, w3.frozen? ⟨w.heap.size, o, none⟩ = false := fun o => by
            have := (HM.out.frz (p := ⟨w.heap.size, o, none⟩) (by simp) HNB.out)
            rw [World.frozen?_setCell] at this
            exact this.trans (by go_simp)
          have hs3 : w.heap.size < w3.heap.size := by have := HM.out.fr; simp at this; omega
          obtain ⟨tA, tc, htrv⟩ := rwat_len hrx.rows
          obtain ⟨tB, td, htkv⟩ := ksat_len hrx.ks
          have HCS := hide (show t.cs = [.int .i64 t.k, .string t.ch, .bool t.nt, .slice tA t.rows.length tc, .int .i64 t.mi, .int .i64 t.ma, .bool t.lz, .slice tB t.kids.length td] by unfold Rt.cs; rw [htrv, htkv])
          rw [show t.v = .agg #[.int .i64 t.k, .string t.ch, .bool t.nt, .slice tA t.rows.length tc, .int .i64 t.mi, .int .i64 t.ma, .bool t.lz, .slice tB t.kids.length td] by unfold Rt.v Rt.cs; rw [htrv, htkv]]
          have HRX := hide hrx
          have HFR := hide (hfr.mono (show w.heap.size + 1 ≤ (w1.setCell ⟨b, 2, none⟩ (.int .i64 ((g : Int) + 1))).heap.size by have := M.out.fr; simp at this ⊢; omega))
          have HNB3 := hide (show w3.heap.size ≠ b by omega)
          clear hm3 hrx hfr htrv htkv
          go_wp2_with fail
          refine (HT3.out _ ((HM.out.bl (bl_alloc (bl_refl _) _)).pl HP0.out.pl)).mono ?_
          rintro e w5 ⟨rfl, hm5⟩
          have M5 : Hid (Mv (w.alloc (.cells #[.int .i64 0, .string ⟨#[]⟩, .bool false, .slice none 0 0, .int .i64 0, .int .i64 0, .bool false, .slice none 0 0] 25)) w5 b s (tlC r)) := hide ((HM.out.bl (bl_alloc (bl_refl _) _)).trans hm5)
          replace z0 : w5.cell? ⟨w.heap.size, 0, none⟩ = some (.int .i64 0) := M5.out.cell (cells_lit w _ _ 0 _ rfl) HNB.out
          replace z1 : w5.cell? ⟨w.heap.size, 1, none⟩ = some (.string ⟨#[]⟩) := M5.out.cell (cells_lit w _ _ 1 _ rfl) HNB.out
          replace z2 : w5.cell? ⟨w.heap.size, 2, none⟩ = some (.bool false) := M5.out.cell (cells_lit w _ _ 2 _ rfl) HNB.out
          replace z3 : w5.cell? ⟨w.heap.size, 3, none⟩ = some (.slice none 0 0) := M5.out.cell (cells_lit w _ _ 3 _ rfl) HNB.out
          replace z4 : w5.cell? ⟨w.heap.size, 4, none⟩ = some (.int .i64 0) := M5.out.cell (cells_lit w _ _ 4 _ rfl) HNB.out
          replace z5 : w5.cell? ⟨w.heap.size, 5, none⟩ = some (.int .i64 0) := M5.out.cell (cells_lit w _ _ 5 _ rfl) HNB.out
          replace z6 : w5.cell? ⟨w.heap.size, 6, none⟩ = some (.bool false) := M5.out.cell (cells_lit w _ _ 6 _ rfl) HNB.out
          replace z7 : w5.cell? ⟨w.heap.size, 7, none⟩ = some (.slice none 0 0) := M5.out.cell (cells_lit w _ _ 7 _ rfl) HNB.out
          replace hf3 : ∀ o, w5.frozen? ⟨w.heap.size, o, none⟩ = false := fun o => (M5.out.frz (p := ⟨w.heap.size, o, none⟩) (by simp) HNB.out).trans (by go_simp)
          have hs5 : w.heap.size < w5.heap.size := Nat.lt_of_lt_of_le (by simp) M5.out.fr
          have y0 : w5.cell? ⟨w3.heap.size, 0, none⟩ = some (.int .i64 t.k) := hm5.cell (ks_alloc (W := w3.setCell ⟨b, 2, none⟩ (.int .i64 (g : Int))) (T := 25) (cs := [.int .i64 t.k, .string t.ch, .bool t.nt, .slice tA t.rows.length tc, .int .i64 t.mi, .int .i64 t.ma, .bool t.lz, .slice tB t.kids.length td]) (by simp) 0 _ rfl) HNB3.out
          have y1 : w5.cell? ⟨w3.heap.size, 1, none⟩ = some (.string t.ch) := hm5.cell (ks_alloc (W := w3.setCell ⟨b, 2, none⟩ (.int .i64 (g : Int))) (T := 25) (cs := [.int .i64 t.k, .string t.ch, .bool t.nt, .slice tA t.rows.length tc, .int .i64 t.mi, .int .i64 t.ma, .bool t.lz, .slice tB t.kids.length td]) (by simp) 1 _ rfl) HNB3.out
          have y2 : w5.cell? ⟨w3.heap.size, 2, none⟩ = some (.bool t.nt) := hm5.cell (ks_alloc (W := w3.setCell ⟨b, 2, none⟩ (.int .i64 (g : Int))) (T := 25) (cs := [.int .i64 t.k, .string t.ch, .bool t.nt, .slice tA t.rows.length tc, .int .i64 t.mi, .int .i64 t.ma, .bool t.lz, .slice tB t.kids.length td]) (by simp) 2 _ rfl) HNB3.out
          have y3 : w5.cell? ⟨w3.heap.size, 3, none⟩ = some (.slice tA t.rows.length tc) := hm5.cell (ks_alloc (W := w3.setCell ⟨b, 2, none⟩ (.int .i64 (g : Int))) (T := 25) (cs := [.int .i64 t.k, .string t.ch, .bool t.nt, .slice tA t.rows.length tc, .int .i64 t.mi, .int .i64 t.ma, .bool t.lz, .slice tB t.kids.length td]) (by simp) 3 _ rfl) HNB3.out
          have y4 : w5.cell? ⟨w3.heap.size, 4, none⟩ = some (.int .i64 t.mi) := hm5.cell (ks_alloc (W := w3.setCell ⟨b, 2, none⟩ (.int .i64 (g : Int))) (T := 25) (cs := [.int .i64 t.k, .string t.ch, .bool t.nt, .slice tA t.rows.length tc, .int .i64 t.mi, .int .i64 t.ma, .bool t.lz, .slice tB t.kids.length td]) (by simp) 4 _ rfl) HNB3.out
          have y5 : w5.cell? ⟨w3.heap.size, 5, none⟩ = some (.int .i64 t.ma) := hm5.cell (ks_alloc (W := w3.setCell ⟨b, 2, none⟩ (.int .i64 (g : Int))) (T := 25) (cs := [.int .i64 t.k, .string t.ch, .bool t.nt, .slice tA t.rows.length tc, .int .i64 t.mi, .int .i64 t.ma, .bool t.lz, .slice tB t.kids.length td]) (by simp) 5 _ rfl) HNB3.out
          have y6 : w5.cell? ⟨w3.heap.size, 6, none⟩ = some (.bool t.lz) := hm5.cell (ks_alloc (W := w3.setCell ⟨b, 2, none⟩ (.int .i64 (g : Int))) (T := 25) (cs := [.int .i64 t.k, .string t.ch, .bool t.nt, .slice tA t.rows.length tc, .int .i64 t.mi, .int .i64 t.ma, .bool t.lz, .slice tB t.kids.length td]) (by simp) 6 _ rfl) HNB3.out
          have y7 : w5.cell? ⟨w3.heap.size, 7, none⟩ = some (.slice tB t.kids.length td) := hm5.cell (ks_alloc (W := w3.setCell ⟨b, 2, none⟩ (.int .i64 (g : Int))) (T := 25) (cs := [.int .i64 t.k, .string t.ch, .bool t.nt, .slice tA t.rows.length tc, .int .i64 t.mi, .int .i64 t.ma, .bool t.lz, .slice tB t.kids.length td]) (by simp) 7 _ rfl) HNB3.out
          have HK5 := hide (show Kept (w.heap.size + 1) w3 w5 from kept_trans (kept_trans (kept_set_b w3 (Nat.lt_succ_of_lt HBW.out) _) (kept_below (bl_alloc (bl_refl _) _))) (mv_kept hm5 (Nat.lt_succ_of_lt HBW.out)))
          clear hm5 q2 qf qb
          go_wp2
          refine bodyPost_ret (v := .tuple #[.agg #[.int .i64 5, .string ⟨#[]⟩, .bool false, .slice none 0 0, .int .i64 0, .int .i64 0, .bool false, .slice (some ⟨w5.heap.size, 0, none⟩) 1 1], .int .i64 0]) ?_ rfl (trp_le (grp_end (N := w.heap.size + 1) (u := w3) ((mv8 ((HS.out.pl.self (bl_alloc (bl_refl w) _)).trans M5.out) HNB.out (Nat.le_refl _) _ _ _ _ _ _ _ _ _ _ _ _ _ _ _ _).bl (bl_alloc (bl_refl _) _)) HRX.out ?_ HFR.out (by omega) (fun j u hu => ks_alloc (T := 25) (cs := [.int .i64 t.k, .string t.ch, .bool t.nt, .slice tA t.rows.length tc, .int .i64 t.mi, .int .i64 t.ma, .bool t.lz, .slice tB t.kids.length td]) (by simp) j u (by rw [← HCS.out]; exact hu))) (Nat.le_succ _))
          · rw [results_cell2 rfl]
            go_simp
          · exact kept_trans HK5.out (kept_trans (kept8 _ (Nat.lt_succ_self _) _ _ _ _ _ _ _ _ _ _ _ _ _ _ _ _) (kept_below (bl_alloc (bl_refl _) _)))
    · rw [hq1, if_pos rfl] at ho
      have HT1 := hide (pos_take HP0.out.pl ⟨#[63]⟩ true hq1)
      clear hq1
      rcases hq2 : (hdC (tlC l) == [58]) with _ | _
      · rw [hq2, if_neg (by decide)] at ho
        subst ho
        have HT2 := hide (fun W (hp : Pl W b s (tlC l)) => pos_take hp ⟨#[58]⟩ false hq2)
        clear hq2
        go_enter Tryz.func79, Tryz.ntmps79
        go_wp2_with fail
        refine HT1.out.mono ?_
        rintro e w1 ⟨rfl, hm⟩
        have M1 : Hid (Mv (w.alloc (.cells #[.int .i64 0, .string ⟨#[]⟩, .bool false, .slice none 0 0, .int .i64 0, .int .i64 0, .bool false, .slice none 0 0] 25)) w1 b s (tlC l)) := hide hm
        clear hm
        go_wp2_with fail
        refine (HT2.out _ (M1.out.pl HP0.out.pl)).mono ?_
        rintro e w2 ⟨rfl, hm⟩
        have M2 : Hid (Mv (w.alloc (.cells #[.int .i64 0, .string ⟨#[]⟩, .bool false, .slice none 0 0, .int .i64 0, .int .i64 0, .bool false, .slice none 0 0] 25)) w2 b s (tlC l)) := hide (M1.out.trans hm)
        clear hm
        have z0 : w2.cell? ⟨w.heap.size, 0, none⟩ = some (.int .i64 0) := M2.out.cell (cells_lit w _ _ 0 _ rfl) HNB.out
        have z1 : w2.cell? ⟨w.heap.size, 1, none⟩ = some (.string ⟨#[]⟩) := M2.out.cell (cells_lit w _ _ 1 _ rfl) HNB.out
        have z2 : w2.cell? ⟨w.heap.size, 2, none⟩ = some (.bool false) := M2.out.cell (cells_lit w _ _ 2 _ rfl) HNB.out
        have z3 : w2.cell? ⟨w.heap.size, 3, none⟩ = some (.slice none 0 0) := M2.out.cell (cells_lit w _ _ 3 _ rfl) HNB.out
        have z4 : w2.cell? ⟨w.heap.size, 4, none⟩ = some (.int .i64 0) := M2.out.cell (cells_lit w _ _ 4 _ rfl) HNB.out
        have z5 : w2.cell? ⟨w.heap.size, 5, none⟩ = some (.int .i64 0) := M2.out.cell (cells_lit w _ _ 5 _ rfl) HNB.out
        have z6 : w2.cell? ⟨w.heap.size, 6, none⟩ = some (.bool false) := M2.out.cell (cells_lit w _ _ 6 _ rfl) HNB.out
        have z7 : w2.cell? ⟨w.heap.size, 7, none⟩ = some (.slice none 0 0) := M2.out.cell (cells_lit w _ _ 7 _ rfl) HNB.out
        have hf3 : ∀ o, w2.frozen? ⟨w.heap.size, o, none⟩ = false := fun o => (M2.out.frz (p := ⟨w.heap.size, o, none⟩) (by simp) HNB.out).trans (by go_simp)
        have hs3 : w.heap.size < w2.heap.size := Nat.lt_of_lt_of_le (by simp) M2.out.fr
        go_wp2
        refine bodyPost_ret (v := .tuple #[.agg #[.int .i64 0, .string ⟨#[]⟩, .bool false, .slice none 0 0, .int .i64 0, .int .i64 0, .bool false, .slice none 0 0], .int .i64 10]) ?_ rfl ⟨rfl, _, mv8 ((HS.out.pl.self (bl_alloc (bl_refl w) _)).trans M2.out) HNB.out (Nat.le_refl _) _ _ _ _ _ _ _ _ _ _ _ _ _ _ _ _⟩
        rw [results_cell2 rfl]
        go_simp
      · rw [hq2, if_pos rfl] at ho
        have HT2 := hide (fun W (hp : Pl W b s (tlC l)) => pos_take hp ⟨#[58]⟩ true hq2)
        clear hq2
        obtain ⟨l2, hl2⟩ : ∃ l2, tlC (tlC l) = l2 := ⟨_, rfl⟩
        rw [hl2] at ho
        obtain ⟨p, hp⟩ : ∃ p, pat l2 = p := ⟨_, rfl⟩
        have hgp := HGD.out l2
        rw [hp] at hgp ho
        have HPC := hide (fun W (h : PlG W b s l2 (g + 1)) => (by have := HPT.out W l2 h; rw [hp] at this; exact this : Calls Tryz.prog 11 #[.pointer (some ⟨b, 0, none⟩)] W (TrPost W b s p)))
        clear hp
        rcases p with _ | n | ⟨x, r⟩
        · exact absurd hgp (fun h => h)
        · simp only [grpE] at ho
          subst ho
          rcases hgp with rfl | rfl
          · go_enter Tryz.func79, Tryz.ntmps79
            go_wp2_with fail
            refine HT1.out.mono ?_
            rintro e w1 ⟨rfl, hm⟩
            have M1 : Hid (Mv (w.alloc (.cells #[.int .i64 0, .string ⟨#[]⟩, .bool false, .slice none 0 0, .int .i64 0, .int .i64 0, .bool false, .slice none 0 0] 25)) w1 b s (tlC l)) := hide hm
            clear hm
            go_wp2_with fail
            refine (HT2.out _ (M1.out.pl HP0.out.pl)).mono ?_
            rintro e w2 ⟨rfl, hm⟩
            have M2 : Hid (Mv (w.alloc (.cells #[.int .i64 0, .string ⟨#[]⟩, .bool false, .slice none 0 0, .int .i64 0, .int .i64 0, .bool false, .slice none 0 0] 25)) w2 b s (tlC (tlC l))) := hide (M1.out.trans hm)
            clear hm
            have M : Hid (Mv (w.alloc (.cells #[.int .i64 0, .string ⟨#[]⟩, .bool false, .slice none 0 0, .int .i64 0, .int .i64 0, .bool false, .slice none 0 0] 25)) w2 b s l2) := hide (by rw [← hl2]; exact M2.out)
            have HG := hide (M2.out.plg HP0.out)
            have d2 := HG.out.gr
            have df := HG.out.gf
            have HGU2 := hide (plg_up (M.out.plg HP0.out))
            clear hl2
            go_wp2_with fail
            refine (HPC.out _ (HGU2.out)).mono ?_
            rintro e w3 ⟨rfl, r3, hm3⟩
            have HM := hide (grp_back M.out HP0.out.gr hm3)
            have hne1 : b ≠ w.heap.size := fun e => HNB.out e.symm
            have hne2 : w.heap.size ≠ b := HNB.out
            have q2 : w3.cell? ⟨b, 2, none⟩ = some (.int .i64 ((g : Int) + 1)) := (hm3.1.cells 2 (by omega)).trans (HGU2.out.gr)
            have qf : w3.frozen? ⟨b, 2, none⟩ = false := (hm3.1.froz 2).trans (HGU2.out.gf)
            have qb : b < w3.heap.size := hm3.1.lt
            have z0 : w3.cell? ⟨w.heap.size, 0, none⟩ = some (.int .i64 0) := (back_cell HM.out HNB.out (cells_lit w _ _ 0 _ rfl))
            have z1 : w3.cell? ⟨w.heap.size, 1, none⟩ = some (.string ⟨#[]⟩) := (back_cell HM.out HNB.out (cells_lit w _ _ 1 _ rfl))
            have z2 : w3.cell? ⟨w.heap.size, 2, none⟩ = some (.bool false) := (back_cell HM.out HNB.out (cells_lit w _ _ 2 _ rfl))
            have z3 : w3.cell? ⟨w.heap.size, 3, none⟩ = some (.slice none 0 0) := (back_cell HM.out HNB.out (cells_lit w _ _ 3 _ rfl))
            have z4 : w3.cell? ⟨w.heap.size, 4, none⟩ = some (.int .i64 0) := (back_cell HM.out HNB.out (cells_lit w _ _ 4 _ rfl))
            have z5 : w3.cell? ⟨w.heap.size, 5, none⟩ = some (.int .i64 0) := (back_cell HM.out HNB.out (cells_lit w _ _ 5 _ rfl))
            have z6 : w3.cell? ⟨w.heap.size, 6, none⟩ = some (.bool false) := (back_cell HM.out HNB.out (cells_lit w _ _ 6 _ rfl))
            have z7 : w3.cell? ⟨w.heap.size, 7, none⟩ = some (.slice none 0 0) := (back_cell HM.out HNB.out (cells_lit w _ _ 7 _ rfl))
            have hf3 : ∀ o, w3.frozen? ⟨w.heap.size, o, none⟩ = false := fun o => by
              have := (HM.out.frz (p := ⟨w.heap.size, o, none⟩) (by simp) HNB.out)
              rw [World.frozen?_setCell] at this
              exact this.trans (by go_simp)
            have hs3 : w.heap.size < w3.heap.size := by have := HM.out.fr; simp at this; omega
            rw [show rt0.v = .agg #[.int .i64 0, .string ⟨#[]⟩, .bool false, .slice none 0 0, .int .i64 0, .int .i64 0, .bool false, .slice none 0 0] from rfl]
            clear hm3
            go_wp2
            refine bodyPost_ret (v := .tuple #[.agg #[.int .i64 0, .string ⟨#[]⟩, .bool false, .slice none 0 0, .int .i64 0, .int .i64 0, .bool false, .slice none 0 0], .int .i64 8]) ?_ rfl ⟨rfl, _, (mv8 ((HS.out.pl.self (bl_alloc (bl_refl w) _)).trans HM.out) HNB.out (Nat.le_refl _) _ _ _ _ _ _ _ _ _ _ _ _ _ _ _ _).bl (bl_alloc (bl_refl _) _)⟩
            rw [results_cell2 rfl]
            go_simp
          · go_enter Tryz.func79, Tryz.ntmps79
            go_wp2_with fail
            refine HT1.out.mono ?_
            rintro e w1 ⟨rfl, hm⟩
            have M1 : Hid (Mv (w.alloc (.cells #[.int .i64 0, .string ⟨#[]⟩, .bool false, .slice none 0 0, .int .i64 0, .int .i64 0, .bool false, .slice none 0 0] 25)) w1 b s (tlC l)) := hide hm
            clear hm
            go_wp2_with fail
            refine (HT2.out _ (M1.out.pl HP0.out.pl)).mono ?_
            rintro e w2 ⟨rfl, hm⟩
            have M2 : Hid (Mv (w.alloc (.cells #[.int .i64 0, .string ⟨#[]⟩, .bool false, .slice none 0 0, .int .i64 0, .int .i64 0, .bool false, .slice none 0 0] 25)) w2 b s (tlC (tlC l))) := hide (M1.out.trans hm)
            clear hm
            have M : Hid (Mv (w.alloc (.cells #[.int .i64 0, .string ⟨#[]⟩, .bool false, .slice none 0 0, .int .i64 0, .int .i64 0, .bool false, .slice none 0 0] 25)) w2 b s l2) := hide (by rw [← hl2]; exact M2.out)
            have HG := hide (M2.out.plg HP0.out)
            have d2 := HG.out.gr
            have df := HG.out.gf
            have HGU2 := hide (plg_up (M.out.plg HP0.out))
            clear hl2
            go_wp2_with fail
            refine (HPC.out _ (HGU2.out)).mono ?_
            rintro e w3 ⟨rfl, r3, hm3⟩
            have HM := hide (grp_back M.out HP0.out.gr hm3)
            have hne1 : b ≠ w.heap.size := fun e => HNB.out e.symm
            have hne2 : w.heap.size ≠ b := HNB.out
            have q2 : w3.cell? ⟨b, 2, none⟩ = some (.int .i64 ((g : Int) + 1)) := (hm3.1.cells 2 (by omega)).trans (HGU2.out.gr)
            have qf : w3.frozen? ⟨b, 2, none⟩ = false := (hm3.1.froz 2).trans (HGU2.out.gf)
            have qb : b < w3.heap.size := hm3.1.lt
            have z0 : w3.cell? ⟨w.heap.size, 0, none⟩ = some (.int .i64 0) := (back_cell HM.out HNB.out (cells_lit w _ _ 0 _ rfl))
            have z1 : w3.cell? ⟨w.heap.size, 1, none⟩ = some (.string ⟨#[]⟩) := (back_cell HM.out HNB.out (cells_lit w _ _ 1 _ rfl))
            have z2 : w3.cell? ⟨w.heap.size, 2, none⟩ = some (.bool false) := (back_cell HM.out HNB.out (cells_lit w _ _ 2 _ rfl))
            have z3 : w3.cell? ⟨w.heap.size, 3, none⟩ = some (.slice none 0 0) := (back_cell HM.out HNB.out (cells_lit w _ _ 3 _ rfl))
            have z4 : w3.cell? ⟨w.heap.size, 4, none⟩ = some (.int .i64 0) := (back_cell HM.out HNB.out (cells_lit w _ _ 4 _ rfl))
            have z5 : w3.cell? ⟨w.heap.size, 5, none⟩ = some (.int .i64 0) := (back_cell HM.out HNB.out (cells_lit w _ _ 5 _ rfl))
            have z6 : w3.cell? ⟨w.heap.size, 6, none⟩ = some (.bool false) := (back_cell HM.out HNB.out (cells_lit w _ _ 6 _ rfl))
            have z7 : w3.cell? ⟨w.heap.size, 7, none⟩ = some (.slice none 0 0) := (back_cell HM.out HNB.out (cells_lit w _ _ 7 _ rfl))
            have hf3 : ∀ o, w3.frozen? ⟨w.heap.size, o, none⟩ = false := fun o => by
              have := (HM.out.frz (p := ⟨w.heap.size, o, none⟩) (by simp) HNB.out)
              rw [World.frozen?_setCell] at this
              exact this.trans (by go_simp)
            have hs3 : w.heap.size < w3.heap.size := by have := HM.out.fr; simp at this; omega
            rw [show rt0.v = .agg #[.int .i64 0, .string ⟨#[]⟩, .bool false, .slice none 0 0, .int .i64 0, .int .i64 0, .bool false, .slice none 0 0] from rfl]
            clear hm3
            go_wp2
            refine bodyPost_ret (v := .tuple #[.agg #[.int .i64 0, .string ⟨#[]⟩, .bool false, .slice none 0 0, .int .i64 0, .int .i64 0, .bool false, .slice none 0 0], .int .i64 10]) ?_ rfl ⟨rfl, _, (mv8 ((HS.out.pl.self (bl_alloc (bl_refl w) _)).trans HM.out) HNB.out (Nat.le_refl _) _ _ _ _ _ _ _ _ _ _ _ _ _ _ _ _).bl (bl_alloc (bl_refl _) _)⟩
            rw [results_cell2 rfl]
            go_simp
        · clear hgp
          simp only [grpE] at ho
          rcases hq3 : (hdC r == [41]) with _ | _
          · rw [hq3, if_neg (by decide)] at ho
            subst ho
            have HT3 := hide (fun W (hp : Pl W b s r) => pos_take hp ⟨#[41]⟩ false hq3)
            clear hq3
            go_enter Tryz.func79, Tryz.ntmps79
            go_wp2_with fail
            refine HT1.out.mono ?_
            rintro e w1 ⟨rfl, hm⟩
            have M1 : Hid (Mv (w.alloc (.cells #[.int .i64 0, .string ⟨#[]⟩, .bool false, .slice none 0 0, .int .i64 0, .int .i64 0, .bool false, .slice none 0 0] 25)) w1 b s (tlC l)) := hide hm
            clear hm
            go_wp2_with fail
            refine (HT2.out _ (M1.out.pl HP0.out.pl)).mono ?_
            rintro e w2 ⟨rfl, hm⟩
            have M2 : Hid (Mv (w.alloc (.cells #[.int .i64 0, .string ⟨#[]⟩, .bool false, .slice none 0 0, .int .i64 0, .int .i64 0, .bool false, .slice none 0 0] 25)) w2 b s (tlC (tlC l))) := hide (M1.out.trans hm)
            clear hm
            have M : Hid (Mv (w.alloc (.cells #[.int .i64 0, .string ⟨#[]⟩, .bool false, .slice none 0 0, .int .i64 0, .int .i64 0, .bool false, .slice none 0 0] 25)) w2 b s l2) := hide (by rw [← hl2]; exact M2.out)
            have HG := hide (M2.out.plg HP0.out)
            have d2 := HG.out.gr
            have df := HG.out.gf
            have HGU2 := hide (plg_up (M.out.plg HP0.out))
            clear hl2
            go_wp2_with fail
            refine (HPC.out _ (HGU2.out)).mono ?_
            rintro e w3 ⟨t, rfl, hm3, hrx, hfr, her⟩
            subst her
            have HM := hide (grp_back M.out HP0.out.gr hm3)
            have hne1 : b ≠ w.heap.size := fun e => HNB.out e.symm
            have hne2 : w.heap.size ≠ b := HNB.out
            have q2 : w3.cell? ⟨b, 2, none⟩ = some (.int .i64 ((g : Int) + 1)) := (hm3.1.cells 2 (by omega)).trans (HGU2.out.gr)
            have qf : w3.frozen? ⟨b, 2, none⟩ = false := (hm3.1.froz 2).trans (HGU2.out.gf)
            have qb : b < w3.heap.size := hm3.1.lt
            have z0 : w3.cell? ⟨w.heap.size, 0, none⟩ = some (.int .i64 0) := (back_cell HM.out HNB.out (cells_lit w _ _ 0 _ rfl))
            have z1 : w3.cell? ⟨w.heap.size, 1, none⟩ = some (.string ⟨#[]⟩) := (back_cell HM.out HNB.out (cells_lit w _ _ 1 _ rfl))
            have z2 : w3.cell? ⟨w.heap.size, 2, none⟩ = some (.bool false) := (back_cell HM.out HNB.out (cells_lit w _ _ 2 _ rfl))
            have z3 : w3.cell? ⟨w.heap.size, 3, none⟩ = some (.slice none 0 0) := (back_cell HM.out HNB.out (cells_lit w _ _ 3 _ rfl))
            have z4 : w3.cell? ⟨w.heap.size, 4, none⟩ = some (.int .i64 0) := (back_cell HM.out HNB.out (cells_lit w _ _ 4 _ rfl))
            have z5 : w3.cell? ⟨w.heap.size, 5, none⟩ = some (.int .i64 0) := (back_cell HM.out HNB.out (cells_lit w _ _ 5 _ rfl))
            have z6 : w3.cell? ⟨w.heap.size, 6, none⟩ = some (.bool false) := (back_cell HM.out HNB.out (cells_lit w _ _ 6 _ rfl))
            have z7 : w3.cell? ⟨w.heap.size, 7, none⟩ = some (.slice none 0 0) := (back_cell HM.out HNB.out (cells_lit w _ _ 7 _ rfl))
            have hf3 : ∀ o, w3.frozen? ⟨w.heap.size, o, none⟩ = false := fun o => by
              have := (HM.out.frz (p := ⟨w.heap.size, o, none⟩) (by simp) HNB.out)
              rw [World.frozen?_setCell] at this
              exact this.trans (by go_simp)
            have hs3 : w.heap.size < w3.heap.size := by have := HM.out.fr; simp at this; omega
            obtain ⟨tA, tc, htrv⟩ := rwat_len hrx.rows
            obtain ⟨tB, td, htkv⟩ := ksat_len hrx.ks
            have HCS := hide (show t.cs = [.int .i64 t.k, .string t.ch, .bool t.nt, .slice tA t.rows.length tc, .int .i64 t.mi, .int .i64 t.ma, .bool t.lz, .slice tB t.kids.length td] by unfold Rt.cs; rw [htrv, htkv])
            rw [show t.v = .agg #[.int .i64 t.k, .string t.ch, .bool t.nt, .slice tA t.rows.length tc, .int .i64 t.mi, .int .i64 t.ma, .bool t.lz, .slice tB t.kids.length td] by unfold Rt.v Rt.cs; rw [htrv, htkv]]
            have HRX := hide hrx
            have HFR := hide (hfr.mono (show w.heap.size + 1 ≤ (w2.setCell ⟨b, 2, none⟩ (.int .i64 ((g : Int) + 1))).heap.size by have := M.out.fr; simp at this ⊢; omega))
            have HNB3 := hide (show w3.heap.size ≠ b by omega)
            clear hm3 hrx hfr htrv htkv
            go_wp2_with fail
            refine (HT3.out _ ((HM.out.bl (bl_alloc (bl_refl _) _)).pl HP0.out.pl)).mono ?_
            rintro e w5 ⟨rfl, hm5⟩
            have M5 : Hid (Mv (w.alloc (.cells #[.int .i64 0, .string ⟨#[]⟩, .bool false, .slice none 0 0, .int .i64 0, .int .i64 0, .bool false, .slice none 0 0] 25)) w5 b s r) := hide ((HM.out.bl (bl_alloc (bl_refl _) _)).trans hm5)
            replace z0 : w5.cell? ⟨w.heap.size, 0, none⟩ = some (.int .i64 0) := M5.out.cell (cells_lit w _ _ 0 _ rfl) HNB.out
            replace z1 : w5.cell? ⟨w.heap.size, 1, none⟩ = some (.string ⟨#[]⟩) := M5.out.cell (cells_lit w _ _ 1 _ rfl) HNB.out
            replace z2 : w5.cell? ⟨w.heap.size, 2, none⟩ = some (.bool false) := M5.out.cell (cells_lit w _ _ 2 _ rfl) HNB.out
            replace z3 : w5.cell? ⟨w.heap.size, 3, none⟩ = some (.slice none 0 0) := M5.out.cell (cells_lit w _ _ 3 _ rfl) HNB.out
            replace z4 : w5.cell? ⟨w.heap.size, 4, none⟩ = some (.int .i64 0) := M5.out.cell (cells_lit w _ _ 4 _ rfl) HNB.out
            replace z5 : w5.cell? ⟨w.heap.size, 5, none⟩ = some (.int .i64 0) := M5.out.cell (cells_lit w _ _ 5 _ rfl) HNB.out
            replace z6 : w5.cell? ⟨w.heap.size, 6, none⟩ = some (.bool false) := M5.out.cell (cells_lit w _ _ 6 _ rfl) HNB.out
            replace z7 : w5.cell? ⟨w.heap.size, 7, none⟩ = some (.slice none 0 0) := M5.out.cell (cells_lit w _ _ 7 _ rfl) HNB.out
            replace hf3 : ∀ o, w5.frozen? ⟨w.heap.size, o, none⟩ = false := fun o => (M5.out.frz (p := ⟨w.heap.size, o, none⟩) (by simp) HNB.out).trans (by go_simp)
            have hs5 : w.heap.size < w5.heap.size := Nat.lt_of_lt_of_le (by simp) M5.out.fr
            clear hm5 q2 qf qb
            go_wp2
            refine bodyPost_ret (v := .tuple #[.agg #[.int .i64 0, .string ⟨#[]⟩, .bool false, .slice none 0 0, .int .i64 0, .int .i64 0, .bool false, .slice none 0 0], .int .i64 10]) ?_ rfl ⟨rfl, _, mv8 ((HS.out.pl.self (bl_alloc (bl_refl w) _)).trans M5.out) HNB.out (Nat.le_refl _) _ _ _ _ _ _ _ _ _ _ _ _ _ _ _ _⟩
            rw [results_cell2 rfl]
            go_simp
          · rw [hq3, if_pos rfl] at ho
            subst ho
            have HT3 := hide (fun W (hp : Pl W b s r) => pos_take hp ⟨#[41]⟩ true hq3)
            clear hq3
            go_enter Tryz.func79, Tryz.ntmps79
            go_wp2_with fail
            refine HT1.out.mono ?_
            rintro e w1 ⟨rfl, hm⟩
            have M1 : Hid (Mv (w.alloc (.cells #[.int .i64 0, .string ⟨#[]⟩, .bool false, .slice none 0 0, .int .i64 0, .int .i64 0, .bool false, .slice none 0 0] 25)) w1 b s (tlC l)) := hide hm
            clear hm
            go_wp2_with fail
            refine (HT2.out _ (M1.out.pl HP0.out.pl)).mono ?_
            rintro e w2 ⟨rfl, hm⟩
            have M2 : Hid (Mv (w.alloc (.cells #[.int .i64 0, .string ⟨#[]⟩, .bool false, .slice none 0 0, .int .i64 0, .int .i64 0, .bool false, .slice none 0 0] 25)) w2 b s (tlC (tlC l))) := hide (M1.out.trans hm)
            clear hm
            have M : Hid (Mv (w.alloc (.cells #[.int .i64 0, .string ⟨#[]⟩, .bool false, .slice none 0 0, .int .i64 0, .int .i64 0, .bool false, .slice none 0 0] 25)) w2 b s l2) := hide (by rw [← hl2]; exact M2.out)
            have HG := hide (M2.out.plg HP0.out)
            have d2 := HG.out.gr
            have df := HG.out.gf
            have HGU2 := hide (plg_up (M.out.plg HP0.out))
            clear hl2
            go_wp2_with fail
            refine (HPC.out _ (HGU2.out)).mono ?_
            rintro e w3 ⟨t, rfl, hm3, hrx, hfr, her⟩
            subst her
            have HM := hide (grp_back M.out HP0.out.gr hm3)
            have hne1 : b ≠ w.heap.size := fun e => HNB.out e.symm
            have hne2 : w.heap.size ≠ b := HNB.out
            have q2 : w3.cell? ⟨b, 2, none⟩ = some (.int .i64 ((g : Int) + 1)) := (hm3.1.cells 2 (by omega)).trans (HGU2.out.gr)
            have qf : w3.frozen? ⟨b, 2, none⟩ = false := (hm3.1.froz 2).trans (HGU2.out.gf)
            have qb : b < w3.heap.size := hm3.1.lt
            have z0 : w3.cell? ⟨w.heap.size, 0, none⟩ = some (.int .i64 0) := (back_cell HM.out HNB.out (cells_lit w _ _ 0 _ rfl))
            have z1 : w3.cell? ⟨w.heap.size, 1, none⟩ = some (.string ⟨#[]⟩) := (back_cell HM.out HNB.out (cells_lit w _ _ 1 _ rfl))
            have z2 : w3.cell? ⟨w.heap.size, 2, none⟩ = some (.bool false) := (back_cell HM.out HNB.out (cells_lit w _ _ 2 _ rfl))
            have z3 : w3.cell? ⟨w.heap.size, 3, none⟩ = some (.slice none 0 0) := (back_cell HM.out HNB.out (cells_lit w _ _ 3 _ rfl))
            have z4 : w3.cell? ⟨w.heap.size, 4, none⟩ = some (.int .i64 0) := (back_cell HM.out HNB.out (cells_lit w _ _ 4 _ rfl))
            have z5 : w3.cell? ⟨w.heap.size, 5, none⟩ = some (.int .i64 0) := (back_cell HM.out HNB.out (cells_lit w _ _ 5 _ rfl))
            have z6 : w3.cell? ⟨w.heap.size, 6, none⟩ = some (.bool false) := (back_cell HM.out HNB.out (cells_lit w _ _ 6 _ rfl))
            have z7 : w3.cell? ⟨w.heap.size, 7, none⟩ = some (.slice none 0 0) := (back_cell HM.out HNB.out (cells_lit w _ _ 7 _ rfl))
            have hf3 : ∀ o, w3.frozen? ⟨w.heap.size, o, none⟩ = false := fun o => by
              have := (HM.out.frz (p := ⟨w.heap.size, o, none⟩) (by simp) HNB.out)
              rw [World.frozen?_setCell] at this
              exact this.trans (by go_simp)
            have hs3 : w.heap.size < w3.heap.size := by have := HM.out.fr; simp at this; omega
            obtain ⟨tA, tc, htrv⟩ := rwat_len hrx.rows
            obtain ⟨tB, td, htkv⟩ := ksat_len hrx.ks
            have HCS := hide (show t.cs = [.int .i64 t.k, .string t.ch, .bool t.nt, .slice tA t.rows.length tc, .int .i64 t.mi, .int .i64 t.ma, .bool t.lz, .slice tB t.kids.length td] by unfold Rt.cs; rw [htrv, htkv])
            rw [show t.v = .agg #[.int .i64 t.k, .string t.ch, .bool t.nt, .slice tA t.rows.length tc, .int .i64 t.mi, .int .i64 t.ma, .bool t.lz, .slice tB t.kids.length td] by unfold Rt.v Rt.cs; rw [htrv, htkv]]
            have HRX := hide hrx
            have HFR := hide (hfr.mono (show w.heap.size + 1 ≤ (w2.setCell ⟨b, 2, none⟩ (.int .i64 ((g : Int) + 1))).heap.size by have := M.out.fr; simp at this ⊢; omega))
            have HNB3 := hide (show w3.heap.size ≠ b by omega)
            clear hm3 hrx hfr htrv htkv
            go_wp2_with fail
            refine (HT3.out _ ((HM.out.bl (bl_alloc (bl_refl _) _)).pl HP0.out.pl)).mono ?_
            rintro e w5 ⟨rfl, hm5⟩
            have M5 : Hid (Mv (w.alloc (.cells #[.int .i64 0, .string ⟨#[]⟩, .bool false, .slice none 0 0, .int .i64 0, .int .i64 0, .bool false, .slice none 0 0] 25)) w5 b s (tlC r)) := hide ((HM.out.bl (bl_alloc (bl_refl _) _)).trans hm5)
            replace z0 : w5.cell? ⟨w.heap.size, 0, none⟩ = some (.int .i64 0) := M5.out.cell (cells_lit w _ _ 0 _ rfl) HNB.out
            replace z1 : w5.cell? ⟨w.heap.size, 1, none⟩ = some (.string ⟨#[]⟩) := M5.out.cell (cells_lit w _ _ 1 _ rfl) HNB.out
            replace z2 : w5.cell? ⟨w.heap.size, 2, none⟩ = some (.bool false) := M5.out.cell (cells_lit w _ _ 2 _ rfl) HNB.out
            replace z3 : w5.cell? ⟨w.heap.size, 3, none⟩ = some (.slice none 0 0) := M5.out.cell (cells_lit w _ _ 3 _ rfl) HNB.out
            replace z4 : w5.cell? ⟨w.heap.size, 4, none⟩ = some (.int .i64 0) := M5.out.cell (cells_lit w _ _ 4 _ rfl) HNB.out
            replace z5 : w5.cell? ⟨w.heap.size, 5, none⟩ = some (.int .i64 0) := M5.out.cell (cells_lit w _ _ 5 _ rfl) HNB.out
            replace z6 : w5.cell? ⟨w.heap.size, 6, none⟩ = some (.bool false) := M5.out.cell (cells_lit w _ _ 6 _ rfl) HNB.out
            replace z7 : w5.cell? ⟨w.heap.size, 7, none⟩ = some (.slice none 0 0) := M5.out.cell (cells_lit w _ _ 7 _ rfl) HNB.out
            replace hf3 : ∀ o, w5.frozen? ⟨w.heap.size, o, none⟩ = false := fun o => (M5.out.frz (p := ⟨w.heap.size, o, none⟩) (by simp) HNB.out).trans (by go_simp)
            have hs5 : w.heap.size < w5.heap.size := Nat.lt_of_lt_of_le (by simp) M5.out.fr
            have y0 : w5.cell? ⟨w3.heap.size, 0, none⟩ = some (.int .i64 t.k) := hm5.cell (ks_alloc (W := w3.setCell ⟨b, 2, none⟩ (.int .i64 (g : Int))) (T := 25) (cs := [.int .i64 t.k, .string t.ch, .bool t.nt, .slice tA t.rows.length tc, .int .i64 t.mi, .int .i64 t.ma, .bool t.lz, .slice tB t.kids.length td]) (by simp) 0 _ rfl) HNB3.out
            have y1 : w5.cell? ⟨w3.heap.size, 1, none⟩ = some (.string t.ch) := hm5.cell (ks_alloc (W := w3.setCell ⟨b, 2, none⟩ (.int .i64 (g : Int))) (T := 25) (cs := [.int .i64 t.k, .string t.ch, .bool t.nt, .slice tA t.rows.length tc, .int .i64 t.mi, .int .i64 t.ma, .bool t.lz, .slice tB t.kids.length td]) (by simp) 1 _ rfl) HNB3.out
            have y2 : w5.cell? ⟨w3.heap.size, 2, none⟩ = some (.bool t.nt) := hm5.cell (ks_alloc (W := w3.setCell ⟨b, 2, none⟩ (.int .i64 (g : Int))) (T := 25) (cs := [.int .i64 t.k, .string t.ch, .bool t.nt, .slice tA t.rows.length tc, .int .i64 t.mi, .int .i64 t.ma, .bool t.lz, .slice tB t.kids.length td]) (by simp) 2 _ rfl) HNB3.out
            have y3 : w5.cell? ⟨w3.heap.size, 3, none⟩ = some (.slice tA t.rows.length tc) := hm5.cell (ks_alloc (W := w3.setCell ⟨b, 2, none⟩ (.int .i64 (g : Int))) (T := 25) (cs := [.int .i64 t.k, .string t.ch, .bool t.nt, .slice tA t.rows.length tc, .int .i64 t.mi, .int .i64 t.ma, .bool t.lz, .slice tB t.kids.length td]) (by simp) 3 _ rfl) HNB3.out
            have y4 : w5.cell? ⟨w3.heap.size, 4, none⟩ = some (.int .i64 t.mi) := hm5.cell (ks_alloc (W := w3.setCell ⟨b, 2, none⟩ (.int .i64 (g : Int))) (T := 25) (cs := [.int .i64 t.k, .string t.ch, .bool t.nt, .slice tA t.rows.length tc, .int .i64 t.mi, .int .i64 t.ma, .bool t.lz, .slice tB t.kids.length td]) (by simp) 4 _ rfl) HNB3.out
            have y5 : w5.cell? ⟨w3.heap.size, 5, none⟩ = some (.int .i64 t.ma) := hm5.cell (ks_alloc (W := w3.setCell ⟨b, 2, none⟩ (.int .i64 (g : Int))) (T := 25) (cs := [.int .i64 t.k, .string t.ch, .bool t.nt, .slice tA t.rows.length tc, .int .i64 t.mi, .int .i64 t.ma, .bool t.lz, .slice tB t.kids.length td]) (by simp) 5 _ rfl) HNB3.out
            have y6 : w5.cell? ⟨w3.heap.size, 6, none⟩ = some (.bool t.lz) := hm5.cell (ks_alloc (W := w3.setCell ⟨b, 2, none⟩ (.int .i64 (g : Int))) (T := 25) (cs := [.int .i64 t.k, .string t.ch, .bool t.nt, .slice tA t.rows.length tc, .int .i64 t.mi, .int .i64 t.ma, .bool t.lz, .slice tB t.kids.length td]) (by simp) 6 _ rfl) HNB3.out
            have y7 : w5.cell? ⟨w3.heap.size, 7, none⟩ = some (.slice tB t.kids.length td) := hm5.cell (ks_alloc (W := w3.setCell ⟨b, 2, none⟩ (.int .i64 (g : Int))) (T := 25) (cs := [.int .i64 t.k, .string t.ch, .bool t.nt, .slice tA t.rows.length tc, .int .i64 t.mi, .int .i64 t.ma, .bool t.lz, .slice tB t.kids.length td]) (by simp) 7 _ rfl) HNB3.out
            have HK5 := hide (show Kept (w.heap.size + 1) w3 w5 from kept_trans (kept_trans (kept_set_b w3 (Nat.lt_succ_of_lt HBW.out) _) (kept_below (bl_alloc (bl_refl _) _))) (mv_kept hm5 (Nat.lt_succ_of_lt HBW.out)))
            clear hm5 q2 qf qb
            go_wp2
            refine bodyPost_ret (v := .tuple #[.agg #[.int .i64 6, .string ⟨#[]⟩, .bool false, .slice none 0 0, .int .i64 0, .int .i64 0, .bool false, .slice (some ⟨w5.heap.size, 0, none⟩) 1 1], .int .i64 0]) ?_ rfl (trp_le (grp_end (N := w.heap.size + 1) (u := w3) ((mv8 ((HS.out.pl.self (bl_alloc (bl_refl w) _)).trans M5.out) HNB.out (Nat.le_refl _) _ _ _ _ _ _ _ _ _ _ _ _ _ _ _ _).bl (bl_alloc (bl_refl _) _)) HRX.out ?_ HFR.out (by omega) (fun j u hu => ks_alloc (T := 25) (cs := [.int .i64 t.k, .string t.ch, .bool t.nt, .slice tA t.rows.length tc, .int .i64 t.mi, .int .i64 t.ma, .bool t.lz, .slice tB t.kids.length td]) (by simp) j u (by rw [← HCS.out]; exact hu))) (Nat.le_succ _))
            · rw [results_cell2 rfl]
              go_simp
            · exact kept_trans HK5.out (kept_trans (kept8 _ (Nat.lt_succ_self _) _ _ _ _ _ _ _ _ _ _ _ _ _ _ _ _) (kept_below (bl_alloc (bl_refl _) _)))
end
section
open Go.ChangeShapes Go.WideShapes Go.ChangeAt Go.RowKit
open SetM
attribute [local go_sem ↓] Go.wp_at_zero Go.wp_at_succ
set_option maxRecDepth 100000
set_option linter.unusedVariables false
set_option maxHeartbeats 16000000 in
theorem rdatom_any {w : World} {b g : Nat} {s : ByteArray} {l : List UInt8} (h : PlG w b s l g) (hs : s.size ≤ 256) (deep : Bool) (pat : List UInt8 → Res)
    (HGRP : ∀ W l', PlG W b s l' g → Calls Tryz.prog 79 #[.pointer (some ⟨b, 0, none⟩)] W (TrPost W b s (grpP deep pat l')))
    (res : Res) (ho : atomP deep pat l = res) : Calls Tryz.prog 65 #[.pointer (some ⟨b, 0, none⟩)] w (TrPost w b s res) := by
  have hbw : b < w.heap.size := World.block_lt_of_cell? _ _ h.gr
  have HS := hide h
  have HNB := hide (show w.heap.size ≠ b by omega)
  have HP0 := hide (show PlG (w.alloc (.cells #[.int .i64 0, .string ⟨#[]⟩, .bool false, .slice none 0 0, .int .i64 0, .int .i64 0, .bool false, .slice none 0 0] 25)) b s l g from h.bl (bl_alloc (bl_refl w) _))
  have HGR := hide HGRP
  unfold atomP at ho
  obtain ⟨L, hL⟩ : ∃ L, hdC l = L := ⟨_, rfl⟩
  have HN := hide (pos_next HP0.out.pl (bsC L) (by rw [← hL]; exact chS_eq HP0.out.pl))
  obtain ⟨r, hr⟩ : ∃ r, tlC l = r := ⟨_, rfl⟩
  rw [hL, hr] at ho
  rw [hr] at HN
  clear h hL hr hbw HGRP
  rcases k0 : (L == [46]) with _ | _
  rotate_left
  · rw [k0, if_pos rfl] at ho
    obtain ⟨u0, v0⟩ := lit_eq (bsC L) #[46] true (by rw [bsC_data]; exact k0)
    subst ho
    obtain ⟨C, hC⟩ : ∃ C, bsC L = C := ⟨_, rfl⟩
    rw [hC] at u0 v0 HN
    clear hC k0
    go_enter Tryz.func65, Tryz.ntmps65
    go_wp2_with fail
    refine HN.out.mono ?_
    rintro e w1 ⟨rfl, hm⟩
    have M1 : Hid (Mv (w.alloc (.cells #[.int .i64 0, .string ⟨#[]⟩, .bool false, .slice none 0 0, .int .i64 0, .int .i64 0, .bool false, .slice none 0 0] 25)) w1 b s r) := hide hm
    clear hm
    have z0 : w1.cell? ⟨w.heap.size, 0, none⟩ = some (.int .i64 0) := M1.out.cell (cells_lit w _ _ 0 _ rfl) HNB.out
    have z1 : w1.cell? ⟨w.heap.size, 1, none⟩ = some (.string ⟨#[]⟩) := M1.out.cell (cells_lit w _ _ 1 _ rfl) HNB.out
    have z2 : w1.cell? ⟨w.heap.size, 2, none⟩ = some (.bool false) := M1.out.cell (cells_lit w _ _ 2 _ rfl) HNB.out
    have z3 : w1.cell? ⟨w.heap.size, 3, none⟩ = some (.slice none 0 0) := M1.out.cell (cells_lit w _ _ 3 _ rfl) HNB.out
    have z4 : w1.cell? ⟨w.heap.size, 4, none⟩ = some (.int .i64 0) := M1.out.cell (cells_lit w _ _ 4 _ rfl) HNB.out
    have z5 : w1.cell? ⟨w.heap.size, 5, none⟩ = some (.int .i64 0) := M1.out.cell (cells_lit w _ _ 5 _ rfl) HNB.out
    have z6 : w1.cell? ⟨w.heap.size, 6, none⟩ = some (.bool false) := M1.out.cell (cells_lit w _ _ 6 _ rfl) HNB.out
    have z7 : w1.cell? ⟨w.heap.size, 7, none⟩ = some (.slice none 0 0) := M1.out.cell (cells_lit w _ _ 7 _ rfl) HNB.out
    have hf3 : ∀ o, w1.frozen? ⟨w.heap.size, o, none⟩ = false := fun o => (M1.out.frz (p := ⟨w.heap.size, o, none⟩) (by simp) HNB.out).trans (by go_simp)
    have hs3 : w.heap.size < w1.heap.size := Nat.lt_of_lt_of_le (by simp) M1.out.fr
    go_wp2
    refine bodyPost_ret (v := .tuple #[.agg #[.int .i64 3, .string ⟨#[]⟩, .bool false, .slice none 0 0, .int .i64 0, .int .i64 0, .bool false, .slice none 0 0], .int .i64 0]) ?_ rfl ⟨kdX 3 [], rfl, mv8 ((HS.out.pl.self (bl_alloc (bl_refl w) _)).trans M1.out) HNB.out (Nat.le_refl _) _ _ _ _ _ _ _ _ _ _ _ _ _ _ _ _, rx_leaf _ _ rfl rfl rfl rfl, fr_leaf _ _ rfl rfl rfl, rfl⟩
    rw [results_cell2 rfl]
    go_simp
  rw [k0, if_neg (by decide)] at ho
  obtain ⟨u0, v0⟩ := lit_eq (bsC L) #[46] false (by rw [bsC_data]; exact k0)
  rcases k1 : (L == [40]) with _ | _
  rotate_left
  · rw [k1, if_pos rfl] at ho
    obtain ⟨u1, v1⟩ := lit_eq (bsC L) #[40] true (by rw [bsC_data]; exact k1)
    have HC := hide (fun W (hp : PlG W b s r g) => HGR.out W r hp)
    rw [ho] at HC
    obtain ⟨C, hC⟩ : ∃ C, bsC L = C := ⟨_, rfl⟩
    rw [hC] at u0 v0 u1 v1 HN
    clear hC k0 k1
    go_enter Tryz.func65, Tryz.ntmps65
    go_wp2_with fail
    refine HN.out.mono ?_
    rintro e w1 ⟨rfl, hm⟩
    have M1 : Hid (Mv (w.alloc (.cells #[.int .i64 0, .string ⟨#[]⟩, .bool false, .slice none 0 0, .int .i64 0, .int .i64 0, .bool false, .slice none 0 0] 25)) w1 b s r) := hide hm
    clear hm
    go_wp2_with fail
    refine (HC.out _ (M1.out.plg HP0.out)).mono ?_
    intro e w2 hp
    rcases res with _ | n | ⟨x, r2⟩
    · exact hp.elim
    · obtain ⟨rfl, r2, hm2⟩ := hp
      have M2 : Hid (Mv (w.alloc (.cells #[.int .i64 0, .string ⟨#[]⟩, .bool false, .slice none 0 0, .int .i64 0, .int .i64 0, .bool false, .slice none 0 0] 25)) w2 b s r2) := hide (M1.out.trans hm2)
      have z0 : w2.cell? ⟨w.heap.size, 0, none⟩ = some (.int .i64 0) := M2.out.cell (cells_lit w _ _ 0 _ rfl) HNB.out
      have z1 : w2.cell? ⟨w.heap.size, 1, none⟩ = some (.string ⟨#[]⟩) := M2.out.cell (cells_lit w _ _ 1 _ rfl) HNB.out
      have z2 : w2.cell? ⟨w.heap.size, 2, none⟩ = some (.bool false) := M2.out.cell (cells_lit w _ _ 2 _ rfl) HNB.out
      have z3 : w2.cell? ⟨w.heap.size, 3, none⟩ = some (.slice none 0 0) := M2.out.cell (cells_lit w _ _ 3 _ rfl) HNB.out
      have z4 : w2.cell? ⟨w.heap.size, 4, none⟩ = some (.int .i64 0) := M2.out.cell (cells_lit w _ _ 4 _ rfl) HNB.out
      have z5 : w2.cell? ⟨w.heap.size, 5, none⟩ = some (.int .i64 0) := M2.out.cell (cells_lit w _ _ 5 _ rfl) HNB.out
      have z6 : w2.cell? ⟨w.heap.size, 6, none⟩ = some (.bool false) := M2.out.cell (cells_lit w _ _ 6 _ rfl) HNB.out
      have z7 : w2.cell? ⟨w.heap.size, 7, none⟩ = some (.slice none 0 0) := M2.out.cell (cells_lit w _ _ 7 _ rfl) HNB.out
      have hf3 : ∀ o, w2.frozen? ⟨w.heap.size, o, none⟩ = false := fun o => (M2.out.frz (p := ⟨w.heap.size, o, none⟩) (by simp) HNB.out).trans (by go_simp)
      have hs3 : w.heap.size < w2.heap.size := Nat.lt_of_lt_of_le (by simp) M2.out.fr
      rw [show rt0.v = .agg #[.int .i64 0, .string ⟨#[]⟩, .bool false, .slice none 0 0, .int .i64 0, .int .i64 0, .bool false, .slice none 0 0] from rfl]
      clear hm2
      go_wp2
      refine bodyPost_ret (v := .tuple #[.agg #[.int .i64 0, .string ⟨#[]⟩, .bool false, .slice none 0 0, .int .i64 0, .int .i64 0, .bool false, .slice none 0 0], .int .i64 n]) ?_ rfl ⟨rfl, _, mv8 ((HS.out.pl.self (bl_alloc (bl_refl w) _)).trans M2.out) HNB.out (Nat.le_refl _) _ _ _ _ _ _ _ _ _ _ _ _ _ _ _ _⟩
      rw [results_cell2 rfl]
      go_simp
    · obtain ⟨t, rfl, hm2, hrx, hfr, her⟩ := hp
      subst her
      have M2 : Hid (Mv (w.alloc (.cells #[.int .i64 0, .string ⟨#[]⟩, .bool false, .slice none 0 0, .int .i64 0, .int .i64 0, .bool false, .slice none 0 0] 25)) w2 b s r2) := hide (M1.out.trans hm2)
      have z0 : w2.cell? ⟨w.heap.size, 0, none⟩ = some (.int .i64 0) := M2.out.cell (cells_lit w _ _ 0 _ rfl) HNB.out
      have z1 : w2.cell? ⟨w.heap.size, 1, none⟩ = some (.string ⟨#[]⟩) := M2.out.cell (cells_lit w _ _ 1 _ rfl) HNB.out
      have z2 : w2.cell? ⟨w.heap.size, 2, none⟩ = some (.bool false) := M2.out.cell (cells_lit w _ _ 2 _ rfl) HNB.out
      have z3 : w2.cell? ⟨w.heap.size, 3, none⟩ = some (.slice none 0 0) := M2.out.cell (cells_lit w _ _ 3 _ rfl) HNB.out
      have z4 : w2.cell? ⟨w.heap.size, 4, none⟩ = some (.int .i64 0) := M2.out.cell (cells_lit w _ _ 4 _ rfl) HNB.out
      have z5 : w2.cell? ⟨w.heap.size, 5, none⟩ = some (.int .i64 0) := M2.out.cell (cells_lit w _ _ 5 _ rfl) HNB.out
      have z6 : w2.cell? ⟨w.heap.size, 6, none⟩ = some (.bool false) := M2.out.cell (cells_lit w _ _ 6 _ rfl) HNB.out
      have z7 : w2.cell? ⟨w.heap.size, 7, none⟩ = some (.slice none 0 0) := M2.out.cell (cells_lit w _ _ 7 _ rfl) HNB.out
      have hf3 : ∀ o, w2.frozen? ⟨w.heap.size, o, none⟩ = false := fun o => (M2.out.frz (p := ⟨w.heap.size, o, none⟩) (by simp) HNB.out).trans (by go_simp)
      have hs3 : w.heap.size < w2.heap.size := Nat.lt_of_lt_of_le (by simp) M2.out.fr
      obtain ⟨tA, tc, htrv⟩ := rwat_len hrx.rows
      obtain ⟨tB, td, htkv⟩ := ksat_len hrx.ks
      have HTV := hide (show t.v = .agg #[.int .i64 t.k, .string t.ch, .bool t.nt, .slice tA t.rows.length tc, .int .i64 t.mi, .int .i64 t.ma, .bool t.lz, .slice tB t.kids.length td] by unfold Rt.v Rt.cs; rw [htrv, htkv])
      have HCS := hide (show t.cs = [.int .i64 t.k, .string t.ch, .bool t.nt, .slice tA t.rows.length tc, .int .i64 t.mi, .int .i64 t.ma, .bool t.lz, .slice tB t.kids.length td] by unfold Rt.cs; rw [htrv, htkv])
      rw [HTV.out]
      have HRX := hide hrx
      have HFR := hide (hfr.mono (show w.heap.size + 1 ≤ w1.heap.size by have := M1.out.fr; simpa using this))
      clear hm2 hrx hfr htrv htkv
      go_wp2
      refine bodyPost_ret (v := .tuple #[.agg #[.int .i64 t.k, .string t.ch, .bool t.nt, .slice tA t.rows.length tc, .int .i64 t.mi, .int .i64 t.ma, .bool t.lz, .slice tB t.kids.length td], .int .i64 0]) ?_ rfl ⟨t, by rw [HTV.out], mv8 ((HS.out.pl.self (bl_alloc (bl_refl w) _)).trans M2.out) HNB.out (Nat.le_refl _) _ _ _ _ _ _ _ _ _ _ _ _ _ _ _ _, rx_kept HRX.out HFR.out (kept8 _ (Nat.lt_succ_self _) _ _ _ _ _ _ _ _ _ _ _ _ _ _ _ _), HFR.out.mono (Nat.le_succ _), rfl⟩
      rw [results_cell2 rfl]
      go_simp
  rw [k1, if_neg (by decide)] at ho
  obtain ⟨u1, v1⟩ := lit_eq (bsC L) #[40] false (by rw [bsC_data]; exact k1)
  rcases k2 : (L == [91]) with _ | _
  rotate_left
  · rw [k2, if_pos rfl] at ho
    obtain ⟨u2, v2⟩ := lit_eq (bsC L) #[91] true (by rw [bsC_data]; exact k2)
    have HC := hide (fun W (hp : Pl W b s r) => class_any hp hs res ho)
    obtain ⟨C, hC⟩ : ∃ C, bsC L = C := ⟨_, rfl⟩
    rw [hC] at u0 v0 u1 v1 u2 v2 HN
    clear hC k0 k1 k2
    go_enter Tryz.func65, Tryz.ntmps65
    go_wp2_with fail
    refine HN.out.mono ?_
    rintro e w1 ⟨rfl, hm⟩
    have M1 : Hid (Mv (w.alloc (.cells #[.int .i64 0, .string ⟨#[]⟩, .bool false, .slice none 0 0, .int .i64 0, .int .i64 0, .bool false, .slice none 0 0] 25)) w1 b s r) := hide hm
    clear hm
    go_wp2_with fail
    refine (HC.out _ (M1.out.pl HP0.out.pl)).mono ?_
    intro e w2 hp
    rcases res with _ | n | ⟨x, r2⟩
    · exact hp.elim
    · obtain ⟨rfl, r2, hm2⟩ := hp
      have M2 : Hid (Mv (w.alloc (.cells #[.int .i64 0, .string ⟨#[]⟩, .bool false, .slice none 0 0, .int .i64 0, .int .i64 0, .bool false, .slice none 0 0] 25)) w2 b s r2) := hide (M1.out.trans hm2)
      have z0 : w2.cell? ⟨w.heap.size, 0, none⟩ = some (.int .i64 0) := M2.out.cell (cells_lit w _ _ 0 _ rfl) HNB.out
      have z1 : w2.cell? ⟨w.heap.size, 1, none⟩ = some (.string ⟨#[]⟩) := M2.out.cell (cells_lit w _ _ 1 _ rfl) HNB.out
      have z2 : w2.cell? ⟨w.heap.size, 2, none⟩ = some (.bool false) := M2.out.cell (cells_lit w _ _ 2 _ rfl) HNB.out
      have z3 : w2.cell? ⟨w.heap.size, 3, none⟩ = some (.slice none 0 0) := M2.out.cell (cells_lit w _ _ 3 _ rfl) HNB.out
      have z4 : w2.cell? ⟨w.heap.size, 4, none⟩ = some (.int .i64 0) := M2.out.cell (cells_lit w _ _ 4 _ rfl) HNB.out
      have z5 : w2.cell? ⟨w.heap.size, 5, none⟩ = some (.int .i64 0) := M2.out.cell (cells_lit w _ _ 5 _ rfl) HNB.out
      have z6 : w2.cell? ⟨w.heap.size, 6, none⟩ = some (.bool false) := M2.out.cell (cells_lit w _ _ 6 _ rfl) HNB.out
      have z7 : w2.cell? ⟨w.heap.size, 7, none⟩ = some (.slice none 0 0) := M2.out.cell (cells_lit w _ _ 7 _ rfl) HNB.out
      have hf3 : ∀ o, w2.frozen? ⟨w.heap.size, o, none⟩ = false := fun o => (M2.out.frz (p := ⟨w.heap.size, o, none⟩) (by simp) HNB.out).trans (by go_simp)
      have hs3 : w.heap.size < w2.heap.size := Nat.lt_of_lt_of_le (by simp) M2.out.fr
      rw [show rt0.v = .agg #[.int .i64 0, .string ⟨#[]⟩, .bool false, .slice none 0 0, .int .i64 0, .int .i64 0, .bool false, .slice none 0 0] from rfl]
      clear hm2
      go_wp2
      refine bodyPost_ret (v := .tuple #[.agg #[.int .i64 0, .string ⟨#[]⟩, .bool false, .slice none 0 0, .int .i64 0, .int .i64 0, .bool false, .slice none 0 0], .int .i64 n]) ?_ rfl ⟨rfl, _, mv8 ((HS.out.pl.self (bl_alloc (bl_refl w) _)).trans M2.out) HNB.out (Nat.le_refl _) _ _ _ _ _ _ _ _ _ _ _ _ _ _ _ _⟩
      rw [results_cell2 rfl]
      go_simp
    · obtain ⟨t, rfl, hm2, hrx, hfr, her⟩ := hp
      subst her
      have M2 : Hid (Mv (w.alloc (.cells #[.int .i64 0, .string ⟨#[]⟩, .bool false, .slice none 0 0, .int .i64 0, .int .i64 0, .bool false, .slice none 0 0] 25)) w2 b s r2) := hide (M1.out.trans hm2)
      have z0 : w2.cell? ⟨w.heap.size, 0, none⟩ = some (.int .i64 0) := M2.out.cell (cells_lit w _ _ 0 _ rfl) HNB.out
      have z1 : w2.cell? ⟨w.heap.size, 1, none⟩ = some (.string ⟨#[]⟩) := M2.out.cell (cells_lit w _ _ 1 _ rfl) HNB.out
      have z2 : w2.cell? ⟨w.heap.size, 2, none⟩ = some (.bool false) := M2.out.cell (cells_lit w _ _ 2 _ rfl) HNB.out
      have z3 : w2.cell? ⟨w.heap.size, 3, none⟩ = some (.slice none 0 0) := M2.out.cell (cells_lit w _ _ 3 _ rfl) HNB.out
      have z4 : w2.cell? ⟨w.heap.size, 4, none⟩ = some (.int .i64 0) := M2.out.cell (cells_lit w _ _ 4 _ rfl) HNB.out
      have z5 : w2.cell? ⟨w.heap.size, 5, none⟩ = some (.int .i64 0) := M2.out.cell (cells_lit w _ _ 5 _ rfl) HNB.out
      have z6 : w2.cell? ⟨w.heap.size, 6, none⟩ = some (.bool false) := M2.out.cell (cells_lit w _ _ 6 _ rfl) HNB.out
      have z7 : w2.cell? ⟨w.heap.size, 7, none⟩ = some (.slice none 0 0) := M2.out.cell (cells_lit w _ _ 7 _ rfl) HNB.out
      have hf3 : ∀ o, w2.frozen? ⟨w.heap.size, o, none⟩ = false := fun o => (M2.out.frz (p := ⟨w.heap.size, o, none⟩) (by simp) HNB.out).trans (by go_simp)
      have hs3 : w.heap.size < w2.heap.size := Nat.lt_of_lt_of_le (by simp) M2.out.fr
      obtain ⟨tA, tc, htrv⟩ := rwat_len hrx.rows
      obtain ⟨tB, td, htkv⟩ := ksat_len hrx.ks
      have HTV := hide (show t.v = .agg #[.int .i64 t.k, .string t.ch, .bool t.nt, .slice tA t.rows.length tc, .int .i64 t.mi, .int .i64 t.ma, .bool t.lz, .slice tB t.kids.length td] by unfold Rt.v Rt.cs; rw [htrv, htkv])
      have HCS := hide (show t.cs = [.int .i64 t.k, .string t.ch, .bool t.nt, .slice tA t.rows.length tc, .int .i64 t.mi, .int .i64 t.ma, .bool t.lz, .slice tB t.kids.length td] by unfold Rt.cs; rw [htrv, htkv])
      rw [HTV.out]
      have HRX := hide hrx
      have HFR := hide (hfr.mono (show w.heap.size + 1 ≤ w1.heap.size by have := M1.out.fr; simpa using this))
      clear hm2 hrx hfr htrv htkv
      go_wp2
      refine bodyPost_ret (v := .tuple #[.agg #[.int .i64 t.k, .string t.ch, .bool t.nt, .slice tA t.rows.length tc, .int .i64 t.mi, .int .i64 t.ma, .bool t.lz, .slice tB t.kids.length td], .int .i64 0]) ?_ rfl ⟨t, by rw [HTV.out], mv8 ((HS.out.pl.self (bl_alloc (bl_refl w) _)).trans M2.out) HNB.out (Nat.le_refl _) _ _ _ _ _ _ _ _ _ _ _ _ _ _ _ _, rx_kept HRX.out HFR.out (kept8 _ (Nat.lt_succ_self _) _ _ _ _ _ _ _ _ _ _ _ _ _ _ _ _), HFR.out.mono (Nat.le_succ _), rfl⟩
      rw [results_cell2 rfl]
      go_simp
  rw [k2, if_neg (by decide)] at ho
  obtain ⟨u2, v2⟩ := lit_eq (bsC L) #[91] false (by rw [bsC_data]; exact k2)
  rcases k3 : (L == [92]) with _ | _
  rotate_left
  · rw [k3, if_pos rfl] at ho
    obtain ⟨u3, v3⟩ := lit_eq (bsC L) #[92] true (by rw [bsC_data]; exact k3)
    have HC := hide (fun W (hp : Pl W b s r) => backslash_any hp res ho)
    obtain ⟨C, hC⟩ : ∃ C, bsC L = C := ⟨_, rfl⟩
    rw [hC] at u0 v0 u1 v1 u2 v2 u3 v3 HN
    clear hC k0 k1 k2 k3
    go_enter Tryz.func65, Tryz.ntmps65
    go_wp2_with fail
    refine HN.out.mono ?_
    rintro e w1 ⟨rfl, hm⟩
    have M1 : Hid (Mv (w.alloc (.cells #[.int .i64 0, .string ⟨#[]⟩, .bool false, .slice none 0 0, .int .i64 0, .int .i64 0, .bool false, .slice none 0 0] 25)) w1 b s r) := hide hm
    clear hm
    go_wp2_with fail
    refine (HC.out _ (M1.out.pl HP0.out.pl)).mono ?_
    intro e w2 hp
    rcases res with _ | n | ⟨x, r2⟩
    · exact hp.elim
    · obtain ⟨rfl, r2, hm2⟩ := hp
      have M2 : Hid (Mv (w.alloc (.cells #[.int .i64 0, .string ⟨#[]⟩, .bool false, .slice none 0 0, .int .i64 0, .int .i64 0, .bool false, .slice none 0 0] 25)) w2 b s r2) := hide (M1.out.trans hm2)
      have z0 : w2.cell? ⟨w.heap.size, 0, none⟩ = some (.int .i64 0) := M2.out.cell (cells_lit w _ _ 0 _ rfl) HNB.out
      have z1 : w2.cell? ⟨w.heap.size, 1, none⟩ = some (.string ⟨#[]⟩) := M2.out.cell (cells_lit w _ _ 1 _ rfl) HNB.out
      have z2 : w2.cell? ⟨w.heap.size, 2, none⟩ = some (.bool false) := M2.out.cell (cells_lit w _ _ 2 _ rfl) HNB.out
      have z3 : w2.cell? ⟨w.heap.size, 3, none⟩ = some (.slice none 0 0) := M2.out.cell (cells_lit w _ _ 3 _ rfl) HNB.out
      have z4 : w2.cell? ⟨w.heap.size, 4, none⟩ = some (.int .i64 0) := M2.out.cell (cells_lit w _ _ 4 _ rfl) HNB.out
      have z5 : w2.cell? ⟨w.heap.size, 5, none⟩ = some (.int .i64 0) := M2.out.cell (cells_lit w _ _ 5 _ rfl) HNB.out
      have z6 : w2.cell? ⟨w.heap.size, 6, none⟩ = some (.bool false) := M2.out.cell (cells_lit w _ _ 6 _ rfl) HNB.out
      have z7 : w2.cell? ⟨w.heap.size, 7, none⟩ = some (.slice none 0 0) := M2.out.cell (cells_lit w _ _ 7 _ rfl) HNB.out
      have hf3 : ∀ o, w2.frozen? ⟨w.heap.size, o, none⟩ = false := fun o => (M2.out.frz (p := ⟨w.heap.size, o, none⟩) (by simp) HNB.out).trans (by go_simp)
      have hs3 : w.heap.size < w2.heap.size := Nat.lt_of_lt_of_le (by simp) M2.out.fr
      rw [show rt0.v = .agg #[.int .i64 0, .string ⟨#[]⟩, .bool false, .slice none 0 0, .int .i64 0, .int .i64 0, .bool false, .slice none 0 0] from rfl]
      clear hm2
      go_wp2
      refine bodyPost_ret (v := .tuple #[.agg #[.int .i64 0, .string ⟨#[]⟩, .bool false, .slice none 0 0, .int .i64 0, .int .i64 0, .bool false, .slice none 0 0], .int .i64 n]) ?_ rfl ⟨rfl, _, mv8 ((HS.out.pl.self (bl_alloc (bl_refl w) _)).trans M2.out) HNB.out (Nat.le_refl _) _ _ _ _ _ _ _ _ _ _ _ _ _ _ _ _⟩
      rw [results_cell2 rfl]
      go_simp
    · obtain ⟨t, rfl, hm2, hrx, hfr, her⟩ := hp
      subst her
      have M2 : Hid (Mv (w.alloc (.cells #[.int .i64 0, .string ⟨#[]⟩, .bool false, .slice none 0 0, .int .i64 0, .int .i64 0, .bool false, .slice none 0 0] 25)) w2 b s r2) := hide (M1.out.trans hm2)
      have z0 : w2.cell? ⟨w.heap.size, 0, none⟩ = some (.int .i64 0) := M2.out.cell (cells_lit w _ _ 0 _ rfl) HNB.out
      have z1 : w2.cell? ⟨w.heap.size, 1, none⟩ = some (.string ⟨#[]⟩) := M2.out.cell (cells_lit w _ _ 1 _ rfl) HNB.out
      have z2 : w2.cell? ⟨w.heap.size, 2, none⟩ = some (.bool false) := M2.out.cell (cells_lit w _ _ 2 _ rfl) HNB.out
      have z3 : w2.cell? ⟨w.heap.size, 3, none⟩ = some (.slice none 0 0) := M2.out.cell (cells_lit w _ _ 3 _ rfl) HNB.out
      have z4 : w2.cell? ⟨w.heap.size, 4, none⟩ = some (.int .i64 0) := M2.out.cell (cells_lit w _ _ 4 _ rfl) HNB.out
      have z5 : w2.cell? ⟨w.heap.size, 5, none⟩ = some (.int .i64 0) := M2.out.cell (cells_lit w _ _ 5 _ rfl) HNB.out
      have z6 : w2.cell? ⟨w.heap.size, 6, none⟩ = some (.bool false) := M2.out.cell (cells_lit w _ _ 6 _ rfl) HNB.out
      have z7 : w2.cell? ⟨w.heap.size, 7, none⟩ = some (.slice none 0 0) := M2.out.cell (cells_lit w _ _ 7 _ rfl) HNB.out
      have hf3 : ∀ o, w2.frozen? ⟨w.heap.size, o, none⟩ = false := fun o => (M2.out.frz (p := ⟨w.heap.size, o, none⟩) (by simp) HNB.out).trans (by go_simp)
      have hs3 : w.heap.size < w2.heap.size := Nat.lt_of_lt_of_le (by simp) M2.out.fr
      obtain ⟨tA, tc, htrv⟩ := rwat_len hrx.rows
      obtain ⟨tB, td, htkv⟩ := ksat_len hrx.ks
      have HTV := hide (show t.v = .agg #[.int .i64 t.k, .string t.ch, .bool t.nt, .slice tA t.rows.length tc, .int .i64 t.mi, .int .i64 t.ma, .bool t.lz, .slice tB t.kids.length td] by unfold Rt.v Rt.cs; rw [htrv, htkv])
      have HCS := hide (show t.cs = [.int .i64 t.k, .string t.ch, .bool t.nt, .slice tA t.rows.length tc, .int .i64 t.mi, .int .i64 t.ma, .bool t.lz, .slice tB t.kids.length td] by unfold Rt.cs; rw [htrv, htkv])
      rw [HTV.out]
      have HRX := hide hrx
      have HFR := hide (hfr.mono (show w.heap.size + 1 ≤ w1.heap.size by have := M1.out.fr; simpa using this))
      clear hm2 hrx hfr htrv htkv
      go_wp2
      refine bodyPost_ret (v := .tuple #[.agg #[.int .i64 t.k, .string t.ch, .bool t.nt, .slice tA t.rows.length tc, .int .i64 t.mi, .int .i64 t.ma, .bool t.lz, .slice tB t.kids.length td], .int .i64 0]) ?_ rfl ⟨t, by rw [HTV.out], mv8 ((HS.out.pl.self (bl_alloc (bl_refl w) _)).trans M2.out) HNB.out (Nat.le_refl _) _ _ _ _ _ _ _ _ _ _ _ _ _ _ _ _, rx_kept HRX.out HFR.out (kept8 _ (Nat.lt_succ_self _) _ _ _ _ _ _ _ _ _ _ _ _ _ _ _ _), HFR.out.mono (Nat.le_succ _), rfl⟩
      rw [results_cell2 rfl]
      go_simp
  rw [k3, if_neg (by decide)] at ho
  obtain ⟨u3, v3⟩ := lit_eq (bsC L) #[92] false (by rw [bsC_data]; exact k3)
  rcases k4 : (L == [42]) with _ | _
  rotate_left
  · rw [k4, if_pos rfl] at ho
    obtain ⟨u4, v4⟩ := lit_eq (bsC L) #[42] true (by rw [bsC_data]; exact k4)
    subst ho
    obtain ⟨C, hC⟩ : ∃ C, bsC L = C := ⟨_, rfl⟩
    rw [hC] at u0 v0 u1 v1 u2 v2 u3 v3 u4 v4 HN
    clear hC k0 k1 k2 k3 k4
    go_enter Tryz.func65, Tryz.ntmps65
    go_wp2_with fail
    refine HN.out.mono ?_
    rintro e w1 ⟨rfl, hm⟩
    have M1 : Hid (Mv (w.alloc (.cells #[.int .i64 0, .string ⟨#[]⟩, .bool false, .slice none 0 0, .int .i64 0, .int .i64 0, .bool false, .slice none 0 0] 25)) w1 b s r) := hide hm
    clear hm
    have z0 : w1.cell? ⟨w.heap.size, 0, none⟩ = some (.int .i64 0) := M1.out.cell (cells_lit w _ _ 0 _ rfl) HNB.out
    have z1 : w1.cell? ⟨w.heap.size, 1, none⟩ = some (.string ⟨#[]⟩) := M1.out.cell (cells_lit w _ _ 1 _ rfl) HNB.out
    have z2 : w1.cell? ⟨w.heap.size, 2, none⟩ = some (.bool false) := M1.out.cell (cells_lit w _ _ 2 _ rfl) HNB.out
    have z3 : w1.cell? ⟨w.heap.size, 3, none⟩ = some (.slice none 0 0) := M1.out.cell (cells_lit w _ _ 3 _ rfl) HNB.out
    have z4 : w1.cell? ⟨w.heap.size, 4, none⟩ = some (.int .i64 0) := M1.out.cell (cells_lit w _ _ 4 _ rfl) HNB.out
    have z5 : w1.cell? ⟨w.heap.size, 5, none⟩ = some (.int .i64 0) := M1.out.cell (cells_lit w _ _ 5 _ rfl) HNB.out
    have z6 : w1.cell? ⟨w.heap.size, 6, none⟩ = some (.bool false) := M1.out.cell (cells_lit w _ _ 6 _ rfl) HNB.out
    have z7 : w1.cell? ⟨w.heap.size, 7, none⟩ = some (.slice none 0 0) := M1.out.cell (cells_lit w _ _ 7 _ rfl) HNB.out
    have hf3 : ∀ o, w1.frozen? ⟨w.heap.size, o, none⟩ = false := fun o => (M1.out.frz (p := ⟨w.heap.size, o, none⟩) (by simp) HNB.out).trans (by go_simp)
    have hs3 : w.heap.size < w1.heap.size := Nat.lt_of_lt_of_le (by simp) M1.out.fr
    go_wp2
    refine bodyPost_ret (v := .tuple #[.agg #[.int .i64 0, .string ⟨#[]⟩, .bool false, .slice none 0 0, .int .i64 0, .int .i64 0, .bool false, .slice none 0 0], .int .i64 10]) ?_ rfl ⟨rfl, _, mv8 ((HS.out.pl.self (bl_alloc (bl_refl w) _)).trans M1.out) HNB.out (Nat.le_refl _) _ _ _ _ _ _ _ _ _ _ _ _ _ _ _ _⟩
    rw [results_cell2 rfl]
    go_simp
  rw [k4, if_neg (by decide)] at ho
  obtain ⟨u4, v4⟩ := lit_eq (bsC L) #[42] false (by rw [bsC_data]; exact k4)
  rcases k5 : (L == [43]) with _ | _
  rotate_left
  · rw [k5, if_pos rfl] at ho
    obtain ⟨u5, v5⟩ := lit_eq (bsC L) #[43] true (by rw [bsC_data]; exact k5)
    subst ho
    obtain ⟨C, hC⟩ : ∃ C, bsC L = C := ⟨_, rfl⟩
    rw [hC] at u0 v0 u1 v1 u2 v2 u3 v3 u4 v4 u5 v5 HN
    clear hC k0 k1 k2 k3 k4 k5
    go_enter Tryz.func65, Tryz.ntmps65
    go_wp2_with fail
    refine HN.out.mono ?_
    rintro e w1 ⟨rfl, hm⟩
    have M1 : Hid (Mv (w.alloc (.cells #[.int .i64 0, .string ⟨#[]⟩, .bool false, .slice none 0 0, .int .i64 0, .int .i64 0, .bool false, .slice none 0 0] 25)) w1 b s r) := hide hm
    clear hm
    have z0 : w1.cell? ⟨w.heap.size, 0, none⟩ = some (.int .i64 0) := M1.out.cell (cells_lit w _ _ 0 _ rfl) HNB.out
    have z1 : w1.cell? ⟨w.heap.size, 1, none⟩ = some (.string ⟨#[]⟩) := M1.out.cell (cells_lit w _ _ 1 _ rfl) HNB.out
    have z2 : w1.cell? ⟨w.heap.size, 2, none⟩ = some (.bool false) := M1.out.cell (cells_lit w _ _ 2 _ rfl) HNB.out
    have z3 : w1.cell? ⟨w.heap.size, 3, none⟩ = some (.slice none 0 0) := M1.out.cell (cells_lit w _ _ 3 _ rfl) HNB.out
    have z4 : w1.cell? ⟨w.heap.size, 4, none⟩ = some (.int .i64 0) := M1.out.cell (cells_lit w _ _ 4 _ rfl) HNB.out
    have z5 : w1.cell? ⟨w.heap.size, 5, none⟩ = some (.int .i64 0) := M1.out.cell (cells_lit w _ _ 5 _ rfl) HNB.out
    have z6 : w1.cell? ⟨w.heap.size, 6, none⟩ = some (.bool false) := M1.out.cell (cells_lit w _ _ 6 _ rfl) HNB.out
    have z7 : w1.cell? ⟨w.heap.size, 7, none⟩ = some (.slice none 0 0) := M1.out.cell (cells_lit w _ _ 7 _ rfl) HNB.out
    have hf3 : ∀ o, w1.frozen? ⟨w.heap.size, o, none⟩ = false := fun o => (M1.out.frz (p := ⟨w.heap.size, o, none⟩) (by simp) HNB.out).trans (by go_simp)
    have hs3 : w.heap.size < w1.heap.size := Nat.lt_of_lt_of_le (by simp) M1.out.fr
    go_wp2
    refine bodyPost_ret (v := .tuple #[.agg #[.int .i64 0, .string ⟨#[]⟩, .bool false, .slice none 0 0, .int .i64 0, .int .i64 0, .bool false, .slice none 0 0], .int .i64 10]) ?_ rfl ⟨rfl, _, mv8 ((HS.out.pl.self (bl_alloc (bl_refl w) _)).trans M1.out) HNB.out (Nat.le_refl _) _ _ _ _ _ _ _ _ _ _ _ _ _ _ _ _⟩
    rw [results_cell2 rfl]
    go_simp
  rw [k5, if_neg (by decide)] at ho
  obtain ⟨u5, v5⟩ := lit_eq (bsC L) #[43] false (by rw [bsC_data]; exact k5)
  rcases k6 : (L == [63]) with _ | _
  rotate_left
  · rw [k6, if_pos rfl] at ho
    obtain ⟨u6, v6⟩ := lit_eq (bsC L) #[63] true (by rw [bsC_data]; exact k6)
    subst ho
    obtain ⟨C, hC⟩ : ∃ C, bsC L = C := ⟨_, rfl⟩
    rw [hC] at u0 v0 u1 v1 u2 v2 u3 v3 u4 v4 u5 v5 u6 v6 HN
    clear hC k0 k1 k2 k3 k4 k5 k6
    go_enter Tryz.func65, Tryz.ntmps65
    go_wp2_with fail
    refine HN.out.mono ?_
    rintro e w1 ⟨rfl, hm⟩
    have M1 : Hid (Mv (w.alloc (.cells #[.int .i64 0, .string ⟨#[]⟩, .bool false, .slice none 0 0, .int .i64 0, .int .i64 0, .bool false, .slice none 0 0] 25)) w1 b s r) := hide hm
    clear hm
    have z0 : w1.cell? ⟨w.heap.size, 0, none⟩ = some (.int .i64 0) := M1.out.cell (cells_lit w _ _ 0 _ rfl) HNB.out
    have z1 : w1.cell? ⟨w.heap.size, 1, none⟩ = some (.string ⟨#[]⟩) := M1.out.cell (cells_lit w _ _ 1 _ rfl) HNB.out
    have z2 : w1.cell? ⟨w.heap.size, 2, none⟩ = some (.bool false) := M1.out.cell (cells_lit w _ _ 2 _ rfl) HNB.out
    have z3 : w1.cell? ⟨w.heap.size, 3, none⟩ = some (.slice none 0 0) := M1.out.cell (cells_lit w _ _ 3 _ rfl) HNB.out
    have z4 : w1.cell? ⟨w.heap.size, 4, none⟩ = some (.int .i64 0) := M1.out.cell (cells_lit w _ _ 4 _ rfl) HNB.out
    have z5 : w1.cell? ⟨w.heap.size, 5, none⟩ = some (.int .i64 0) := M1.out.cell (cells_lit w _ _ 5 _ rfl) HNB.out
    have z6 : w1.cell? ⟨w.heap.size, 6, none⟩ = some (.bool false) := M1.out.cell (cells_lit w _ _ 6 _ rfl) HNB.out
    have z7 : w1.cell? ⟨w.heap.size, 7, none⟩ = some (.slice none 0 0) := M1.out.cell (cells_lit w _ _ 7 _ rfl) HNB.out
    have hf3 : ∀ o, w1.frozen? ⟨w.heap.size, o, none⟩ = false := fun o => (M1.out.frz (p := ⟨w.heap.size, o, none⟩) (by simp) HNB.out).trans (by go_simp)
    have hs3 : w.heap.size < w1.heap.size := Nat.lt_of_lt_of_le (by simp) M1.out.fr
    go_wp2
    refine bodyPost_ret (v := .tuple #[.agg #[.int .i64 0, .string ⟨#[]⟩, .bool false, .slice none 0 0, .int .i64 0, .int .i64 0, .bool false, .slice none 0 0], .int .i64 10]) ?_ rfl ⟨rfl, _, mv8 ((HS.out.pl.self (bl_alloc (bl_refl w) _)).trans M1.out) HNB.out (Nat.le_refl _) _ _ _ _ _ _ _ _ _ _ _ _ _ _ _ _⟩
    rw [results_cell2 rfl]
    go_simp
  rw [k6, if_neg (by decide)] at ho
  obtain ⟨u6, v6⟩ := lit_eq (bsC L) #[63] false (by rw [bsC_data]; exact k6)
  rcases k7 : (L == [123]) with _ | _
  rotate_left
  · rw [k7, if_pos rfl] at ho
    obtain ⟨u7, v7⟩ := lit_eq (bsC L) #[123] true (by rw [bsC_data]; exact k7)
    subst ho
    obtain ⟨C, hC⟩ : ∃ C, bsC L = C := ⟨_, rfl⟩
    rw [hC] at u0 v0 u1 v1 u2 v2 u3 v3 u4 v4 u5 v5 u6 v6 u7 v7 HN
    clear hC k0 k1 k2 k3 k4 k5 k6 k7
    go_enter Tryz.func65, Tryz.ntmps65
    go_wp2_with fail
    refine HN.out.mono ?_
    rintro e w1 ⟨rfl, hm⟩
    have M1 : Hid (Mv (w.alloc (.cells #[.int .i64 0, .string ⟨#[]⟩, .bool false, .slice none 0 0, .int .i64 0, .int .i64 0, .bool false, .slice none 0 0] 25)) w1 b s r) := hide hm
    clear hm
    have z0 : w1.cell? ⟨w.heap.size, 0, none⟩ = some (.int .i64 0) := M1.out.cell (cells_lit w _ _ 0 _ rfl) HNB.out
    have z1 : w1.cell? ⟨w.heap.size, 1, none⟩ = some (.string ⟨#[]⟩) := M1.out.cell (cells_lit w _ _ 1 _ rfl) HNB.out
    have z2 : w1.cell? ⟨w.heap.size, 2, none⟩ = some (.bool false) := M1.out.cell (cells_lit w _ _ 2 _ rfl) HNB.out
    have z3 : w1.cell? ⟨w.heap.size, 3, none⟩ = some (.slice none 0 0) := M1.out.cell (cells_lit w _ _ 3 _ rfl) HNB.out
    have z4 : w1.cell? ⟨w.heap.size, 4, none⟩ = some (.int .i64 0) := M1.out.cell (cells_lit w _ _ 4 _ rfl) HNB.out
    have z5 : w1.cell? ⟨w.heap.size, 5, none⟩ = some (.int .i64 0) := M1.out.cell (cells_lit w _ _ 5 _ rfl) HNB.out
    have z6 : w1.cell? ⟨w.heap.size, 6, none⟩ = some (.bool false) := M1.out.cell (cells_lit w _ _ 6 _ rfl) HNB.out
    have z7 : w1.cell? ⟨w.heap.size, 7, none⟩ = some (.slice none 0 0) := M1.out.cell (cells_lit w _ _ 7 _ rfl) HNB.out
    have hf3 : ∀ o, w1.frozen? ⟨w.heap.size, o, none⟩ = false := fun o => (M1.out.frz (p := ⟨w.heap.size, o, none⟩) (by simp) HNB.out).trans (by go_simp)
    have hs3 : w.heap.size < w1.heap.size := Nat.lt_of_lt_of_le (by simp) M1.out.fr
    go_wp2
    refine bodyPost_ret (v := .tuple #[.agg #[.int .i64 0, .string ⟨#[]⟩, .bool false, .slice none 0 0, .int .i64 0, .int .i64 0, .bool false, .slice none 0 0], .int .i64 10]) ?_ rfl ⟨rfl, _, mv8 ((HS.out.pl.self (bl_alloc (bl_refl w) _)).trans M1.out) HNB.out (Nat.le_refl _) _ _ _ _ _ _ _ _ _ _ _ _ _ _ _ _⟩
    rw [results_cell2 rfl]
    go_simp
  rw [k7, if_neg (by decide)] at ho
  obtain ⟨u7, v7⟩ := lit_eq (bsC L) #[123] false (by rw [bsC_data]; exact k7)
  have HBL := hide (show bsC L = bsC L from rfl)
  subst ho
  have HCX : ∃ c, c = bsC L := ⟨_, rfl⟩
  obtain ⟨C, hC⟩ : ∃ C, bsC L = C := ⟨_, rfl⟩
  rw [hC] at u0 v0 u1 v1 u2 v2 u3 v3 u4 v4 u5 v5 u6 v6 u7 v7 HN
  clear HCX HBL
  have HCE := hide hC
  clear hC k0 k1 k2 k3 k4 k5 k6 k7
  go_enter Tryz.func65, Tryz.ntmps65
  go_wp2_with fail
  refine HN.out.mono ?_
  rintro e w1 ⟨rfl, hm⟩
  have M1 : Hid (Mv (w.alloc (.cells #[.int .i64 0, .string ⟨#[]⟩, .bool false, .slice none 0 0, .int .i64 0, .int .i64 0, .bool false, .slice none 0 0] 25)) w1 b s r) := hide hm
  clear hm
  have z0 : w1.cell? ⟨w.heap.size, 0, none⟩ = some (.int .i64 0) := M1.out.cell (cells_lit w _ _ 0 _ rfl) HNB.out
  have z1 : w1.cell? ⟨w.heap.size, 1, none⟩ = some (.string ⟨#[]⟩) := M1.out.cell (cells_lit w _ _ 1 _ rfl) HNB.out
  have z2 : w1.cell? ⟨w.heap.size, 2, none⟩ = some (.bool false) := M1.out.cell (cells_lit w _ _ 2 _ rfl) HNB.out
  have z3 : w1.cell? ⟨w.heap.size, 3, none⟩ = some (.slice none 0 0) := M1.out.cell (cells_lit w _ _ 3 _ rfl) HNB.out
  have z4 : w1.cell? ⟨w.heap.size, 4, none⟩ = some (.int .i64 0) := M1.out.cell (cells_lit w _ _ 4 _ rfl) HNB.out
  have z5 : w1.cell? ⟨w.heap.size, 5, none⟩ = some (.int .i64 0) := M1.out.cell (cells_lit w _ _ 5 _ rfl) HNB.out
  have z6 : w1.cell? ⟨w.heap.size, 6, none⟩ = some (.bool false) := M1.out.cell (cells_lit w _ _ 6 _ rfl) HNB.out
  have z7 : w1.cell? ⟨w.heap.size, 7, none⟩ = some (.slice none 0 0) := M1.out.cell (cells_lit w _ _ 7 _ rfl) HNB.out
  have hf3 : ∀ o, w1.frozen? ⟨w.heap.size, o, none⟩ = false := fun o => (M1.out.frz (p := ⟨w.heap.size, o, none⟩) (by simp) HNB.out).trans (by go_simp)
  have hs3 : w.heap.size < w1.heap.size := Nat.lt_of_lt_of_le (by simp) M1.out.fr
  go_wp2
  rw [HCE.out]
  refine bodyPost_ret (v := .tuple #[.agg #[.int .i64 2, .string C, .bool false, .slice none 0 0, .int .i64 0, .int .i64 0, .bool false, .slice none 0 0], .int .i64 0]) ?_ rfl ⟨chX C, rfl, mv8 ((HS.out.pl.self (bl_alloc (bl_refl w) _)).trans M1.out) HNB.out (Nat.le_refl _) _ _ _ _ _ _ _ _ _ _ _ _ _ _ _ _, rx_leaf _ _ rfl rfl rfl rfl, fr_leaf _ _ rfl rfl rfl, rfl⟩
  rw [results_cell2 rfl]
  go_simp
end
section
open Go.ChangeShapes Go.WideShapes Go.ChangeAt Go.RowKit
open SetM
attribute [local go_sem ↓] Go.wp_at_zero Go.wp_at_succ
set_option maxRecDepth 100000
set_option linter.unusedVariables false
set_option maxHeartbeats 16000000 in
theorem rdterm_any {w : World} {b g : Nat} {s : ByteArray} {l : List UInt8} (h : PlG w b s l g) (deep : Bool) (pat : List UInt8 → Res)
    (HATM : ∀ W l', PlG W b s l' g → Calls Tryz.prog 65 #[.pointer (some ⟨b, 0, none⟩)] W (TrPost W b s (atomP deep pat l'))) (hgd : l ≠ [] → Gd 1 0 l (atomP deep pat l)) (hl : l ≠ [])
    (res : Res) (ho : termP deep pat l = res) : Calls Tryz.prog 38 #[.pointer (some ⟨b, 0, none⟩)] w (TrPost w b s res) := by
  have hbw : b < w.heap.size := World.block_lt_of_cell? _ _ h.gr
  have HS := hide h
  have HNB := hide (show w.heap.size ≠ b by omega)
  have HBW := hide hbw
  have HP0 := hide (show PlG (w.alloc (.cells #[.int .i64 0, .string ⟨#[]⟩, .bool false, .slice none 0 0, .int .i64 0, .int .i64 0, .bool false, .slice none 0 0] 25)) b s l g from h.bl (bl_alloc (bl_refl w) _))
  have HAT := hide (fun W (hp : PlG W b s l g) => HATM W l hp)
  have HGD := hide (hgd hl)
  unfold termP at ho
  clear h hbw HATM hgd hl
  rcases k0 : (hdC l == [94]) with _ | _
  rotate_left
  · rw [k0, if_pos rfl] at ho
    subst ho
    have HT1 := hide (pos_take HP0.out.pl ⟨#[94]⟩ true k0)
    clear k0
    go_enter Tryz.func38, Tryz.ntmps38
    go_wp2_with fail
    refine (HT1.out).mono ?_
    rintro e w1 ⟨rfl, hm⟩
    have M1 : Hid (Mv (w.alloc (.cells #[.int .i64 0, .string ⟨#[]⟩, .bool false, .slice none 0 0, .int .i64 0, .int .i64 0, .bool false, .slice none 0 0] 25)) w1 b s (tlC l)) := hide hm
    clear hm
    have z0 : w1.cell? ⟨w.heap.size, 0, none⟩ = some (.int .i64 0) := M1.out.cell (cells_lit w _ _ 0 _ rfl) HNB.out
    have z1 : w1.cell? ⟨w.heap.size, 1, none⟩ = some (.string ⟨#[]⟩) := M1.out.cell (cells_lit w _ _ 1 _ rfl) HNB.out
    have z2 : w1.cell? ⟨w.heap.size, 2, none⟩ = some (.bool false) := M1.out.cell (cells_lit w _ _ 2 _ rfl) HNB.out
    have z3 : w1.cell? ⟨w.heap.size, 3, none⟩ = some (.slice none 0 0) := M1.out.cell (cells_lit w _ _ 3 _ rfl) HNB.out
    have z4 : w1.cell? ⟨w.heap.size, 4, none⟩ = some (.int .i64 0) := M1.out.cell (cells_lit w _ _ 4 _ rfl) HNB.out
    have z5 : w1.cell? ⟨w.heap.size, 5, none⟩ = some (.int .i64 0) := M1.out.cell (cells_lit w _ _ 5 _ rfl) HNB.out
    have z6 : w1.cell? ⟨w.heap.size, 6, none⟩ = some (.bool false) := M1.out.cell (cells_lit w _ _ 6 _ rfl) HNB.out
    have z7 : w1.cell? ⟨w.heap.size, 7, none⟩ = some (.slice none 0 0) := M1.out.cell (cells_lit w _ _ 7 _ rfl) HNB.out
    have hf3 : ∀ o, w1.frozen? ⟨w.heap.size, o, none⟩ = false := fun o => (M1.out.frz (p := ⟨w.heap.size, o, none⟩) (by simp) HNB.out).trans (by go_simp)
    have hs3 : w.heap.size < w1.heap.size := Nat.lt_of_lt_of_le (by simp) M1.out.fr
    go_wp2
    refine bodyPost_ret (v := .tuple #[.agg #[.int .i64 8, .string ⟨#[]⟩, .bool false, .slice none 0 0, .int .i64 0, .int .i64 0, .bool false, .slice none 0 0], .int .i64 0]) ?_ rfl ⟨kdX 8 [], rfl, mv8 ((HS.out.pl.self (bl_alloc (bl_refl w) _)).trans M1.out) HNB.out (Nat.le_refl _) _ _ _ _ _ _ _ _ _ _ _ _ _ _ _ _, rx_leaf _ _ rfl rfl rfl rfl, fr_leaf _ _ rfl rfl rfl, rfl⟩
    rw [results_cell2 rfl]
    go_simp
  rw [k0, if_neg (by decide)] at ho
  have HT1 := hide (pos_take HP0.out.pl ⟨#[94]⟩ false k0)
  rcases k1 : (hdC l == [36]) with _ | _
  rotate_left
  · rw [k1, if_pos rfl] at ho
    subst ho
    have HT2 := hide (fun W (hp : Pl W b s l) => pos_take hp ⟨#[36]⟩ true k1)
    clear k0 k1
    go_enter Tryz.func38, Tryz.ntmps38
    go_wp2_with fail
    refine (HT1.out).mono ?_
    rintro e w1 ⟨rfl, hm⟩
    have M1 : Hid (Mv (w.alloc (.cells #[.int .i64 0, .string ⟨#[]⟩, .bool false, .slice none 0 0, .int .i64 0, .int .i64 0, .bool false, .slice none 0 0] 25)) w1 b s l) := hide hm
    clear hm
    go_wp2_with fail
    refine (HT2.out _ (M1.out.pl HP0.out.pl)).mono ?_
    rintro e w2 ⟨rfl, hm⟩
    have M2 : Hid (Mv (w.alloc (.cells #[.int .i64 0, .string ⟨#[]⟩, .bool false, .slice none 0 0, .int .i64 0, .int .i64 0, .bool false, .slice none 0 0] 25)) w2 b s (tlC l)) := hide (M1.out.trans hm)
    clear hm
    have z0 : w2.cell? ⟨w.heap.size, 0, none⟩ = some (.int .i64 0) := M2.out.cell (cells_lit w _ _ 0 _ rfl) HNB.out
    have z1 : w2.cell? ⟨w.heap.size, 1, none⟩ = some (.string ⟨#[]⟩) := M2.out.cell (cells_lit w _ _ 1 _ rfl) HNB.out
    have z2 : w2.cell? ⟨w.heap.size, 2, none⟩ = some (.bool false) := M2.out.cell (cells_lit w _ _ 2 _ rfl) HNB.out
    have z3 : w2.cell? ⟨w.heap.size, 3, none⟩ = some (.slice none 0 0) := M2.out.cell (cells_lit w _ _ 3 _ rfl) HNB.out
    have z4 : w2.cell? ⟨w.heap.size, 4, none⟩ = some (.int .i64 0) := M2.out.cell (cells_lit w _ _ 4 _ rfl) HNB.out
    have z5 : w2.cell? ⟨w.heap.size, 5, none⟩ = some (.int .i64 0) := M2.out.cell (cells_lit w _ _ 5 _ rfl) HNB.out
    have z6 : w2.cell? ⟨w.heap.size, 6, none⟩ = some (.bool false) := M2.out.cell (cells_lit w _ _ 6 _ rfl) HNB.out
    have z7 : w2.cell? ⟨w.heap.size, 7, none⟩ = some (.slice none 0 0) := M2.out.cell (cells_lit w _ _ 7 _ rfl) HNB.out
    have hf3 : ∀ o, w2.frozen? ⟨w.heap.size, o, none⟩ = false := fun o => (M2.out.frz (p := ⟨w.heap.size, o, none⟩) (by simp) HNB.out).trans (by go_simp)
    have hs3 : w.heap.size < w2.heap.size := Nat.lt_of_lt_of_le (by simp) M2.out.fr
    go_wp2
    refine bodyPost_ret (v := .tuple #[.agg #[.int .i64 9, .string ⟨#[]⟩, .bool false, .slice none 0 0, .int .i64 0, .int .i64 0, .bool false, .slice none 0 0], .int .i64 0]) ?_ rfl ⟨kdX 9 [], rfl, mv8 ((HS.out.pl.self (bl_alloc (bl_refl w) _)).trans M2.out) HNB.out (Nat.le_refl _) _ _ _ _ _ _ _ _ _ _ _ _ _ _ _ _, rx_leaf _ _ rfl rfl rfl rfl, fr_leaf _ _ rfl rfl rfl, rfl⟩
    rw [results_cell2 rfl]
    go_simp
  rw [k1, if_neg (by decide)] at ho
  have HT2 := hide (fun W (hp : Pl W b s l) => pos_take hp ⟨#[36]⟩ false k1)
  obtain ⟨q, hq⟩ : ∃ q, atomP deep pat l = q := ⟨_, rfl⟩
  have hgq := HGD.out
  rw [hq] at HAT ho hgq
  clear k0 k1 hq HGD
  go_enter Tryz.func38, Tryz.ntmps38
  go_wp2_with fail
  refine (HT1.out).mono ?_
  rintro e w1 ⟨rfl, hm⟩
  have M1 : Hid (Mv (w.alloc (.cells #[.int .i64 0, .string ⟨#[]⟩, .bool false, .slice none 0 0, .int .i64 0, .int .i64 0, .bool false, .slice none 0 0] 25)) w1 b s l) := hide hm
  clear hm
  go_wp2_with fail
  refine (HT2.out _ (M1.out.pl HP0.out.pl)).mono ?_
  rintro e w2 ⟨rfl, hm⟩
  have M2 : Hid (Mv (w.alloc (.cells #[.int .i64 0, .string ⟨#[]⟩, .bool false, .slice none 0 0, .int .i64 0, .int .i64 0, .bool false, .slice none 0 0] 25)) w2 b s l) := hide (M1.out.trans hm)
  clear hm
  go_wp2_with fail
  refine (HAT.out _ (M2.out.plg HP0.out)).mono ?_
  intro e w3 hp
  rcases q with _ | n | ⟨x, r3⟩
  · exact hp.elim
  · obtain ⟨rfl, r3, hm3⟩ := hp
    simp only at ho
    subst ho
    have M3 : Hid (Mv (w.alloc (.cells #[.int .i64 0, .string ⟨#[]⟩, .bool false, .slice none 0 0, .int .i64 0, .int .i64 0, .bool false, .slice none 0 0] 25)) w3 b s r3) := hide (M2.out.trans hm3)
    have z0 : w3.cell? ⟨w.heap.size, 0, none⟩ = some (.int .i64 0) := M3.out.cell (cells_lit w _ _ 0 _ rfl) HNB.out
    have z1 : w3.cell? ⟨w.heap.size, 1, none⟩ = some (.string ⟨#[]⟩) := M3.out.cell (cells_lit w _ _ 1 _ rfl) HNB.out
    have z2 : w3.cell? ⟨w.heap.size, 2, none⟩ = some (.bool false) := M3.out.cell (cells_lit w _ _ 2 _ rfl) HNB.out
    have z3 : w3.cell? ⟨w.heap.size, 3, none⟩ = some (.slice none 0 0) := M3.out.cell (cells_lit w _ _ 3 _ rfl) HNB.out
    have z4 : w3.cell? ⟨w.heap.size, 4, none⟩ = some (.int .i64 0) := M3.out.cell (cells_lit w _ _ 4 _ rfl) HNB.out
    have z5 : w3.cell? ⟨w.heap.size, 5, none⟩ = some (.int .i64 0) := M3.out.cell (cells_lit w _ _ 5 _ rfl) HNB.out
    have z6 : w3.cell? ⟨w.heap.size, 6, none⟩ = some (.bool false) := M3.out.cell (cells_lit w _ _ 6 _ rfl) HNB.out
    have z7 : w3.cell? ⟨w.heap.size, 7, none⟩ = some (.slice none 0 0) := M3.out.cell (cells_lit w _ _ 7 _ rfl) HNB.out
    have hf3 : ∀ o, w3.frozen? ⟨w.heap.size, o, none⟩ = false := fun o => (M3.out.frz (p := ⟨w.heap.size, o, none⟩) (by simp) HNB.out).trans (by go_simp)
    have hs3 : w.heap.size < w3.heap.size := Nat.lt_of_lt_of_le (by simp) M3.out.fr
    rw [show rt0.v = .agg #[.int .i64 0, .string ⟨#[]⟩, .bool false, .slice none 0 0, .int .i64 0, .int .i64 0, .bool false, .slice none 0 0] from rfl]
    clear hm3
    rcases hgq with rfl | rfl
    · go_wp2
      refine bodyPost_ret (v := .tuple #[.agg #[.int .i64 0, .string ⟨#[]⟩, .bool false, .slice none 0 0, .int .i64 0, .int .i64 0, .bool false, .slice none 0 0], .int .i64 8]) ?_ rfl ⟨rfl, _, (mv8 ((HS.out.pl.self (bl_alloc (bl_refl w) _)).trans M3.out) HNB.out (Nat.le_refl _) _ _ _ _ _ _ _ _ _ _ _ _ _ _ _ _).bl (bl_alloc (bl_refl _) _)⟩
      rw [results_cell2 rfl]
      go_simp
    · go_wp2
      refine bodyPost_ret (v := .tuple #[.agg #[.int .i64 0, .string ⟨#[]⟩, .bool false, .slice none 0 0, .int .i64 0, .int .i64 0, .bool false, .slice none 0 0], .int .i64 10]) ?_ rfl ⟨rfl, _, (mv8 ((HS.out.pl.self (bl_alloc (bl_refl w) _)).trans M3.out) HNB.out (Nat.le_refl _) _ _ _ _ _ _ _ _ _ _ _ _ _ _ _ _).bl (bl_alloc (bl_refl _) _)⟩
      rw [results_cell2 rfl]
      go_simp
  · obtain ⟨t, rfl, hm3, hrx, hfr, her⟩ := hp
    have M3 : Hid (Mv (w.alloc (.cells #[.int .i64 0, .string ⟨#[]⟩, .bool false, .slice none 0 0, .int .i64 0, .int .i64 0, .bool false, .slice none 0 0] 25)) w3 b s r3) := hide (M2.out.trans hm3)
    have z0 : w3.cell? ⟨w.heap.size, 0, none⟩ = some (.int .i64 0) := M3.out.cell (cells_lit w _ _ 0 _ rfl) HNB.out
    have z1 : w3.cell? ⟨w.heap.size, 1, none⟩ = some (.string ⟨#[]⟩) := M3.out.cell (cells_lit w _ _ 1 _ rfl) HNB.out
    have z2 : w3.cell? ⟨w.heap.size, 2, none⟩ = some (.bool false) := M3.out.cell (cells_lit w _ _ 2 _ rfl) HNB.out
    have z3 : w3.cell? ⟨w.heap.size, 3, none⟩ = some (.slice none 0 0) := M3.out.cell (cells_lit w _ _ 3 _ rfl) HNB.out
    have z4 : w3.cell? ⟨w.heap.size, 4, none⟩ = some (.int .i64 0) := M3.out.cell (cells_lit w _ _ 4 _ rfl) HNB.out
    have z5 : w3.cell? ⟨w.heap.size, 5, none⟩ = some (.int .i64 0) := M3.out.cell (cells_lit w _ _ 5 _ rfl) HNB.out
    have z6 : w3.cell? ⟨w.heap.size, 6, none⟩ = some (.bool false) := M3.out.cell (cells_lit w _ _ 6 _ rfl) HNB.out
    have z7 : w3.cell? ⟨w.heap.size, 7, none⟩ = some (.slice none 0 0) := M3.out.cell (cells_lit w _ _ 7 _ rfl) HNB.out
    have hf3 : ∀ o, w3.frozen? ⟨w.heap.size, o, none⟩ = false := fun o => (M3.out.frz (p := ⟨w.heap.size, o, none⟩) (by simp) HNB.out).trans (by go_simp)
    have hs3 : w.heap.size < w3.heap.size := Nat.lt_of_lt_of_le (by simp) M3.out.fr
    obtain ⟨tA, tc, htrv⟩ := rwat_len hrx.rows
    obtain ⟨tB, td, htkv⟩ := ksat_len hrx.ks
    have HTV := hide (show t.v = .agg #[.int .i64 t.k, .string t.ch, .bool t.nt, .slice tA t.rows.length tc, .int .i64 t.mi, .int .i64 t.ma, .bool t.lz, .slice tB t.kids.length td] by unfold Rt.v Rt.cs; rw [htrv, htkv])
    have HCS := hide (show t.cs = [.int .i64 t.k, .string t.ch, .bool t.nt, .slice tA t.rows.length tc, .int .i64 t.mi, .int .i64 t.ma, .bool t.lz, .slice tB t.kids.length td] by unfold Rt.cs; rw [htrv, htkv])
    rw [HTV.out]
    have HRX := hide hrx
    have HFR := hide (hfr.mono (show w.heap.size + 1 ≤ w2.heap.size by have := M2.out.fr; simpa using this))
    clear hm3 hrx hfr htrv htkv
    simp only at ho
    have hxk : x.k = t.k := by rw [← her, er_eq]; rfl
    by_cases hk : x.k = 10 ∨ x.k = 11
    · rw [if_pos hk] at ho
      subst ho
      rw [hxk] at hk
      rcases hk with hk | hk
      · have g1 : (t.k == 10) = true := by rw [hk]; decide
        have HER := hide her
        clear hk hxk her
        go_wp2
        refine bodyPost_ret (v := .tuple #[.agg #[.int .i64 t.k, .string t.ch, .bool t.nt, .slice tA t.rows.length tc, .int .i64 t.mi, .int .i64 t.ma, .bool t.lz, .slice tB t.kids.length td], .int .i64 0]) ?_ rfl ⟨t, by rw [HTV.out], (mv8 ((HS.out.pl.self (bl_alloc (bl_refl w) _)).trans M3.out) HNB.out (Nat.le_refl _) _ _ _ _ _ _ _ _ _ _ _ _ _ _ _ _).bl (bl_alloc (bl_refl _) _), rx_kept HRX.out HFR.out (kept_trans (kept8 _ (Nat.lt_succ_self _) _ _ _ _ _ _ _ _ _ _ _ _ _ _ _ _) (kept_below (bl_alloc (bl_refl _) _))), HFR.out.mono (Nat.le_succ _), HER.out⟩
        rw [results_cell2 rfl]
        go_simp
      · have g1 : (t.k == 10) = false := by rw [hk]; decide
        have g2 : (t.k == 11) = true := by rw [hk]; decide
        have HER := hide her
        clear hk hxk her
        go_wp2
        refine bodyPost_ret (v := .tuple #[.agg #[.int .i64 t.k, .string t.ch, .bool t.nt, .slice tA t.rows.length tc, .int .i64 t.mi, .int .i64 t.ma, .bool t.lz, .slice tB t.kids.length td], .int .i64 0]) ?_ rfl ⟨t, by rw [HTV.out], (mv8 ((HS.out.pl.self (bl_alloc (bl_refl w) _)).trans M3.out) HNB.out (Nat.le_refl _) _ _ _ _ _ _ _ _ _ _ _ _ _ _ _ _).bl (bl_alloc (bl_refl _) _), rx_kept HRX.out HFR.out (kept_trans (kept8 _ (Nat.lt_succ_self _) _ _ _ _ _ _ _ _ _ _ _ _ _ _ _ _) (kept_below (bl_alloc (bl_refl _) _))), HFR.out.mono (Nat.le_succ _), HER.out⟩
        rw [results_cell2 rfl]
        go_simp
    · rw [if_neg hk] at ho
      rw [← her] at ho
      have g1 : (t.k == 10) = false := by rw [Bool.eq_false_iff]; intro q; exact hk (.inl (by rw [hxk]; exact beq_iff_eq.1 q))
      have g2 : (t.k == 11) = false := by rw [Bool.eq_false_iff]; intro q; exact hk (.inr (by rw [hxk]; exact beq_iff_eq.1 q))
      have HQ := hide (fun o => quantified_any ((M3.out.bl (bl_alloc (bl_refl _) o)).pl HP0.out.pl) (N := w.heap.size + 1) (Nat.lt_succ_of_lt HBW.out) (by have := M3.out.fr; simp at this ⊢; omega) t (rx_below HRX.out (bl_alloc (bl_refl _) o)) HFR.out res ho)
      rw [HTV.out] at HQ
      clear hk hxk her ho
      go_wp2_with fail
      refine (HQ.out _).mono ?_
      intro e w4 hp
      clear HQ
      rcases res with _ | n | ⟨y, r4⟩
      · exact hp.elim
      · obtain ⟨rfl, r4, hm4⟩ := hp
        have MA : Hid (Mv (w.alloc (.cells #[.int .i64 0, .string ⟨#[]⟩, .bool false, .slice none 0 0, .int .i64 0, .int .i64 0, .bool false, .slice none 0 0] 25)) w4 b s r4) := hide ((M3.out.bl (bl_alloc (bl_refl _) _)).trans hm4)
        replace z0 : w4.cell? ⟨w.heap.size, 0, none⟩ = some (.int .i64 0) := MA.out.cell (cells_lit w _ _ 0 _ rfl) HNB.out
        replace z1 : w4.cell? ⟨w.heap.size, 1, none⟩ = some (.string ⟨#[]⟩) := MA.out.cell (cells_lit w _ _ 1 _ rfl) HNB.out
        replace z2 : w4.cell? ⟨w.heap.size, 2, none⟩ = some (.bool false) := MA.out.cell (cells_lit w _ _ 2 _ rfl) HNB.out
        replace z3 : w4.cell? ⟨w.heap.size, 3, none⟩ = some (.slice none 0 0) := MA.out.cell (cells_lit w _ _ 3 _ rfl) HNB.out
        replace z4 : w4.cell? ⟨w.heap.size, 4, none⟩ = some (.int .i64 0) := MA.out.cell (cells_lit w _ _ 4 _ rfl) HNB.out
        replace z5 : w4.cell? ⟨w.heap.size, 5, none⟩ = some (.int .i64 0) := MA.out.cell (cells_lit w _ _ 5 _ rfl) HNB.out
        replace z6 : w4.cell? ⟨w.heap.size, 6, none⟩ = some (.bool false) := MA.out.cell (cells_lit w _ _ 6 _ rfl) HNB.out
        replace z7 : w4.cell? ⟨w.heap.size, 7, none⟩ = some (.slice none 0 0) := MA.out.cell (cells_lit w _ _ 7 _ rfl) HNB.out
        replace hf3 : ∀ o, w4.frozen? ⟨w.heap.size, o, none⟩ = false := fun o => (MA.out.frz (p := ⟨w.heap.size, o, none⟩) (by simp) HNB.out).trans (by go_simp)
        replace hs3 : w.heap.size < w4.heap.size := Nat.lt_of_lt_of_le (by simp) MA.out.fr
        rw [show rt0.v = .agg #[.int .i64 0, .string ⟨#[]⟩, .bool false, .slice none 0 0, .int .i64 0, .int .i64 0, .bool false, .slice none 0 0] from rfl]
        clear hm4
        go_wp2
        refine bodyPost_ret (v := .tuple #[.agg #[.int .i64 0, .string ⟨#[]⟩, .bool false, .slice none 0 0, .int .i64 0, .int .i64 0, .bool false, .slice none 0 0], .int .i64 n]) ?_ rfl ⟨rfl, _, mv8 ((HS.out.pl.self (bl_alloc (bl_refl w) _)).trans MA.out) HNB.out (Nat.le_refl _) _ _ _ _ _ _ _ _ _ _ _ _ _ _ _ _⟩
        rw [results_cell2 rfl]
        go_simp
      · obtain ⟨u, rfl, hm4, hrx, hfr, hu⟩ := hp
        subst hu
        have MA : Hid (Mv (w.alloc (.cells #[.int .i64 0, .string ⟨#[]⟩, .bool false, .slice none 0 0, .int .i64 0, .int .i64 0, .bool false, .slice none 0 0] 25)) w4 b s r4) := hide ((M3.out.bl (bl_alloc (bl_refl _) _)).trans hm4)
        replace z0 : w4.cell? ⟨w.heap.size, 0, none⟩ = some (.int .i64 0) := MA.out.cell (cells_lit w _ _ 0 _ rfl) HNB.out
        replace z1 : w4.cell? ⟨w.heap.size, 1, none⟩ = some (.string ⟨#[]⟩) := MA.out.cell (cells_lit w _ _ 1 _ rfl) HNB.out
        replace z2 : w4.cell? ⟨w.heap.size, 2, none⟩ = some (.bool false) := MA.out.cell (cells_lit w _ _ 2 _ rfl) HNB.out
        replace z3 : w4.cell? ⟨w.heap.size, 3, none⟩ = some (.slice none 0 0) := MA.out.cell (cells_lit w _ _ 3 _ rfl) HNB.out
        replace z4 : w4.cell? ⟨w.heap.size, 4, none⟩ = some (.int .i64 0) := MA.out.cell (cells_lit w _ _ 4 _ rfl) HNB.out
        replace z5 : w4.cell? ⟨w.heap.size, 5, none⟩ = some (.int .i64 0) := MA.out.cell (cells_lit w _ _ 5 _ rfl) HNB.out
        replace z6 : w4.cell? ⟨w.heap.size, 6, none⟩ = some (.bool false) := MA.out.cell (cells_lit w _ _ 6 _ rfl) HNB.out
        replace z7 : w4.cell? ⟨w.heap.size, 7, none⟩ = some (.slice none 0 0) := MA.out.cell (cells_lit w _ _ 7 _ rfl) HNB.out
        replace hf3 : ∀ o, w4.frozen? ⟨w.heap.size, o, none⟩ = false := fun o => (MA.out.frz (p := ⟨w.heap.size, o, none⟩) (by simp) HNB.out).trans (by go_simp)
        replace hs3 : w.heap.size < w4.heap.size := Nat.lt_of_lt_of_le (by simp) MA.out.fr
        obtain ⟨uA, uc, hurv⟩ := rwat_len hrx.rows
        obtain ⟨uB, ud, hukv⟩ := ksat_len hrx.ks
        have HUV := hide (show u.v = .agg #[.int .i64 u.k, .string u.ch, .bool u.nt, .slice uA u.rows.length uc, .int .i64 u.mi, .int .i64 u.ma, .bool u.lz, .slice uB u.kids.length ud] by unfold Rt.v Rt.cs; rw [hurv, hukv])
        rw [HUV.out]
        have HRU := hide hrx
        have HFU := hide hfr
        clear hm4 hrx hfr hurv hukv
        go_wp2
        refine bodyPost_ret (v := .tuple #[.agg #[.int .i64 u.k, .string u.ch, .bool u.nt, .slice uA u.rows.length uc, .int .i64 u.mi, .int .i64 u.ma, .bool u.lz, .slice uB u.kids.length ud], .int .i64 0]) ?_ rfl ⟨u, by rw [HUV.out], mv8 ((HS.out.pl.self (bl_alloc (bl_refl w) _)).trans MA.out) HNB.out (Nat.le_refl _) _ _ _ _ _ _ _ _ _ _ _ _ _ _ _ _, rx_kept HRU.out HFU.out (kept8 _ (Nat.lt_succ_self _) _ _ _ _ _ _ _ _ _ _ _ _ _ _ _ _), HFU.out.mono (Nat.le_succ _), rfl⟩
        rw [results_cell2 rfl]
        go_simp
end
section
open Go.ChangeShapes Go.WideShapes Go.ChangeAt Go.RowKit
open SetM
attribute [local go_sem ↓] Go.wp_at_zero Go.wp_at_succ
set_option maxRecDepth 100000
set_option linter.unusedVariables false
theorem row_step {N : Nat} {W w4 : World} {base : Nat} {L : List Rt} {t : Rt} {A : Option Addr} {c : Nat} {v' : Value}
    (hL : ∀ x ∈ L, (RxAt W x ∧ ∀ g, (Value.slice A L.length c).ownBlock = some g → Off g x) ∧ Fr N x) (ht : RxAt W t) (htf : Fr N t) (hto : ∀ g, (Value.slice A L.length c).ownBlock = some g → Off g t)
    (ho : w4.ownsRow base 25 8 v' (L.length + 1) (flatX L ++ t.cs)) (hg : W.grownBy w4 (Value.slice A L.length c).ownBlock) (h5 : v'.ownBlock = (Value.slice A L.length c).ownBlock ∨ ∃ k, v'.ownBlock = some k ∧ W.heap.size ≤ k) :
    ∃ (B : Option Addr) (d : Nat), v' = .slice B (L.length + 1) d ∧ w4.ownsRow base 25 8 (.slice B (L ++ [t]).length d) (L ++ [t]).length (flatX (L ++ [t])) ∧ ∀ x ∈ L ++ [t], (RxAt w4 x ∧ ∀ g, (Value.slice B (L ++ [t]).length d).ownBlock = some g → Off g x) ∧ Fr N x := by
  obtain ⟨B, d, rfl⟩ := own_slice ho
  have hl : (L ++ [t]).length = L.length + 1 := by simp
  have hfx : flatX (L ++ [t]) = flatX L ++ t.cs := by simp [flatX]
  refine ⟨B, d, rfl, by rw [hl, hfx]; exact ho, fun x hx => ?_⟩
  have h6 : (RxAt W x ∧ ∀ g, (Value.slice A L.length c).ownBlock = some g → Off g x) ∧ Fr N x := by
    rcases List.mem_append.1 hx with h | h
    · exact hL x h
    · obtain rfl : x = t := by simpa using h
      exact ⟨⟨ht, hto⟩, htf⟩
  refine ⟨⟨rx_row h6.1.1 h6.1.2 hg, fun g hg2 => ?_⟩, h6.2⟩
  rw [hl] at hg2
  rcases h5 with h5 | ⟨k2, h5, h7⟩
  · exact h6.1.2 g (by rw [← h5]; exact hg2)
  · rw [h5] at hg2
    injection hg2 with hg2
    subst hg2
    exact off_new h6.1.1 h7
theorem sq_pass {w w1 w2 : World} {b : Nat} {s : ByteArray} {r : List UInt8} {t : Rt} {x : Rt} (hm : Mv w w1 b s r) (hb : w.heap.size ≠ b) (hb2 : Below w1.heap.size w1 w2) (hr : RxAt w2 t) (hf : Fr w1.heap.size t) (hs : w.heap.size + 1 ≤ w1.heap.size) (he : er t = x) (o0 : Nat) (u0 : Value) (o1 : Nat) (u1 : Value) (o2 : Nat) (u2 : Value) (o3 : Nat) (u3 : Value) (o4 : Nat) (u4 : Value) (o5 : Nat) (u5 : Value) (o6 : Nat) (u6 : Value) (o7 : Nat) (u7 : Value) (v : Value) (hv : v = t.v) :
    TrPost w b s (.ok x r) (.returned (.tuple #[v, .int .i64 0])) ((((((((w2.setCell ⟨w.heap.size, o0, none⟩ u0).setCell ⟨w.heap.size, o1, none⟩ u1).setCell ⟨w.heap.size, o2, none⟩ u2).setCell ⟨w.heap.size, o3, none⟩ u3).setCell ⟨w.heap.size, o4, none⟩ u4).setCell ⟨w.heap.size, o5, none⟩ u5).setCell ⟨w.heap.size, o6, none⟩ u6).setCell ⟨w.heap.size, o7, none⟩ u7) := by
  subst hv
  exact ⟨t, rfl, mv8 (hm.bl hb2) hb (Nat.le_refl _) _ _ _ _ _ _ _ _ _ _ _ _ _ _ _ _, rx_kept hr (hf.mono hs) (kept8 _ (Nat.lt_succ_self _) _ _ _ _ _ _ _ _ _ _ _ _ _ _ _ _), hf.mono (Nat.le_of_succ_le hs), he⟩
attribute [local go_sem] later_cell later_frozen
set_option maxHeartbeats 16000000 in
theorem rdalternative_any {w : World} {b g : Nat} {s : ByteArray} {l : List UInt8} (h : PlG w b s l g) (hs : s.size ≤ 256) (deep : Bool) (pat : List UInt8 → Res)
    (HTRM : ∀ W l', l' ≠ [] → PlG W b s l' g → Calls Tryz.prog 38 #[.pointer (some ⟨b, 0, none⟩)] W (TrPost W b s (termP deep pat l'))) (hgd : ∀ l, l ≠ [] → Gd 1 0 l (termP deep pat l))
    (res : Res) (ho : termsP deep pat (l.length + 1) [] l = res) : Calls Tryz.prog 21 #[.pointer (some ⟨b, 0, none⟩)] w (TrPost w b s res) := by
  obtain ⟨i0, hi0, hz0', hz1, hz2⟩ := info_parts info_rx
  have hbw : b < w.heap.size := World.block_lt_of_cell? _ _ h.gr
  have HS := hide h
  have HNB := hide (show w.heap.size ≠ b by omega)
  have HBW := hide hbw
  have HP0 := hide (show PlG (w.alloc (.cells #[.int .i64 0, .string ⟨#[]⟩, .bool false, .slice none 0 0, .int .i64 0, .int .i64 0, .bool false, .slice none 0 0] 25)) b s l g from h.bl (bl_alloc (bl_refl w) _))
  have HTM := hide HTRM
  have HGD := hide hgd
  have HO0 := hide ho
  have HL0 := hide (show ([] : List Rt).length + l.length ≤ 256 by simp only [List.length_nil]; have := h.pl.le; omega)
  have HM0 := hide (HP0.out.pl.self (bl_refl _))
  clear h hbw HTRM hgd ho
  go_enter Tryz.func21, Tryz.ntmps21
  go_wp2
  go_loopw [4] (fun v wr => ∃ (L : List Rt) (l1 : List UInt8) (n : Nat) (A : Option Addr) (c : Nat), v = .slice A L.length c ∧ Hid (wr.ownsRow (w.heap.size + 1) 25 8 (.slice A L.length c) L.length (flatX L)) ∧ Hid (Mv (w.alloc (.cells #[.int .i64 0, .string ⟨#[]⟩, .bool false, .slice none 0 0, .int .i64 0, .int .i64 0, .bool false, .slice none 0 0] 25)) wr b s l1) ∧ Hid (termsP deep pat n (L.map er) l1 = res) ∧ l1.length < n ∧ L.length + l1.length ≤ 256 ∧ Hid (sL L + 8 * l1.length ≤ 4000) ∧ Hid (∀ x ∈ L, (RxAt wr x ∧ ∀ g, (Value.slice A L.length c).ownBlock = some g → Off g x) ∧ Fr (w.heap.size + 1) x)) (fun _ wr => s.size - posOf wr b)
  case atStart => exact ⟨[], l, l.length + 1, none, 0, rfl, hide ⟨by simp [flatX], .inl ⟨rfl, rfl⟩⟩, HM0, HO0, Nat.lt_succ_self _, HL0.out, hide (by have := HL0.out; simp only [sL, List.length_nil] at this ⊢; omega), hide (fun x hx => by cases hx)⟩
  case round =>
    obtain ⟨L, l1, n, A, c, rfl, HROW, HM, HO, hn, hal, HSZ, HALL⟩ := hrel
    obtain ⟨n, rfl⟩ : ∃ k, n = k + 1 := ⟨n - 1, by omega⟩
    have HPL := hide (HM.out.plg HP0.out)
    have HBR := hide (show b < wr.heap.size from HM.out.1.lt)
    have hd0 := fun q (hq : l1.isEmpty = q) W (hb : Below wr.heap.size wr W) => pos_done (HPL.out.pl.bl hb) q hq
    have HPK := hide (fun W (hb : Below wr.heap.size wr W) => pos_peek (HPL.out.pl.bl hb) (bsC (hdC l1)) (chS_eq (HPL.out.pl.bl hb)))
    have ho2 := HO.out
    rw [termsP] at ho2
    by_cases hE : endB l1 = true
    · rw [if_pos hE] at ho2
      subst ho2
      have HSEQ := hide (fun W (hb : Below wr.heap.size wr W) => seqf_any (.slice A L.length c) L W (ksat_below (own_ksat HROW.out) hb) (fun i hi => rx_below (HALL.out _ (List.getElem_mem hi)).1.1 hb) (by have := HSZ.out; omega))
      unfold SqfPost at HSEQ
      have HEX : Hid (∀ W t e, Below wr.heap.size wr W → e = seqX (flK 0 L) → er t = e → er t = seqX (flK 0 (L.map er))) := hide (fun W t e _ h1 h2 => by rw [flK_er, h2, h1])
      have hE0 := hE
      clear HO hE
      rcases k0 : l1.isEmpty with _ | _
      rotate_left
      · have HD := hide (hd0 true k0)
        clear hd0 k0 HPK
        go_wp2_with fail
        refine (HD.out _ (bl_refl _)).mono ?_
        rintro e w9 ⟨rfl, hx0⟩
        have hb9 := hx0
        clear hx0
        have HB9 := hide hb9
        clear hb9
        have HSQ := hide (HSEQ.out w9 HB9.out)
        go_wp2_with fail
        refine HSQ.out.mono ?_
        rintro e w2 ⟨t, rfl, hb2, hrx, her, hfr⟩
        have M9 : Hid (Mv (w.alloc (.cells #[.int .i64 0, .string ⟨#[]⟩, .bool false, .slice none 0 0, .int .i64 0, .int .i64 0, .bool false, .slice none 0 0] 25)) w9 b s l1) := hide (HM.out.bl HB9.out)
        have M2 : Hid (Mv (w.alloc (.cells #[.int .i64 0, .string ⟨#[]⟩, .bool false, .slice none 0 0, .int .i64 0, .int .i64 0, .bool false, .slice none 0 0] 25)) w2 b s l1) := hide (M9.out.bl hb2)
        have z0 : w2.cell? ⟨w.heap.size, 0, none⟩ = some (.int .i64 0) := M2.out.cell (cells_lit w _ _ 0 _ rfl) HNB.out
        have z1 : w2.cell? ⟨w.heap.size, 1, none⟩ = some (.string ⟨#[]⟩) := M2.out.cell (cells_lit w _ _ 1 _ rfl) HNB.out
        have z2 : w2.cell? ⟨w.heap.size, 2, none⟩ = some (.bool false) := M2.out.cell (cells_lit w _ _ 2 _ rfl) HNB.out
        have z3 : w2.cell? ⟨w.heap.size, 3, none⟩ = some (.slice none 0 0) := M2.out.cell (cells_lit w _ _ 3 _ rfl) HNB.out
        have z4 : w2.cell? ⟨w.heap.size, 4, none⟩ = some (.int .i64 0) := M2.out.cell (cells_lit w _ _ 4 _ rfl) HNB.out
        have z5 : w2.cell? ⟨w.heap.size, 5, none⟩ = some (.int .i64 0) := M2.out.cell (cells_lit w _ _ 5 _ rfl) HNB.out
        have z6 : w2.cell? ⟨w.heap.size, 6, none⟩ = some (.bool false) := M2.out.cell (cells_lit w _ _ 6 _ rfl) HNB.out
        have z7 : w2.cell? ⟨w.heap.size, 7, none⟩ = some (.slice none 0 0) := M2.out.cell (cells_lit w _ _ 7 _ rfl) HNB.out
        have hf3 : ∀ o, w2.frozen? ⟨w.heap.size, o, none⟩ = false := fun o => (M2.out.frz (p := ⟨w.heap.size, o, none⟩) (by simp) HNB.out).trans (by go_simp)
        have hs3 : w.heap.size < w2.heap.size := Nat.lt_of_lt_of_le (by simp) M2.out.fr
        obtain ⟨tA, tc, htrv⟩ := rwat_len hrx.rows
        obtain ⟨tB, td, htkv⟩ := ksat_len hrx.ks
        have HTV := hide (show t.v = .agg #[.int .i64 t.k, .string t.ch, .bool t.nt, .slice tA t.rows.length tc, .int .i64 t.mi, .int .i64 t.ma, .bool t.lz, .slice tB t.kids.length td] by unfold Rt.v Rt.cs; rw [htrv, htkv])
        have HCS := hide (show t.cs = [.int .i64 t.k, .string t.ch, .bool t.nt, .slice tA t.rows.length tc, .int .i64 t.mi, .int .i64 t.ma, .bool t.lz, .slice tB t.kids.length td] by unfold Rt.cs; rw [htrv, htkv])
        rw [HTV.out]
        have HRX := hide hrx
        have HFR := hide hfr
        have HB2 := hide hb2
        have HER := hide (HEX.out w9 t _ HB9.out rfl her)
        have hs9 : w.heap.size + 1 ≤ w9.heap.size := by have := M9.out.fr; simpa using this
        have HS9 := hide hs9
        clear hb2 hrx hfr her htrv htkv hs9
        go_wp2
        refine bodyPost_ret (v := .tuple #[.agg #[.int .i64 t.k, .string t.ch, .bool t.nt, .slice tA t.rows.length tc, .int .i64 t.mi, .int .i64 t.ma, .bool t.lz, .slice tB t.kids.length td], .int .i64 0]) ?_ rfl (sq_pass ((HS.out.pl.self (bl_alloc (bl_refl w) _)).trans M9.out) HNB.out HB2.out HRX.out HFR.out HS9.out HER.out _ _ _ _ _ _ _ _ _ _ _ _ _ _ _ _ _ HTV.out.symm)
        rw [results_cell2 rfl]
        go_simp
      rcases k1 : (hdC l1 == [124]) with _ | _
      rotate_left
      · obtain ⟨u1, v1⟩ := lit_eq (bsC (hdC l1)) #[124] true (by rw [bsC_data]; exact k1)
        obtain ⟨C, hC⟩ : ∃ C, bsC (hdC l1) = C := ⟨_, rfl⟩
        rw [hC] at HPK u1 v1
        clear hC
        have HD := hide (hd0 false k0)
        clear hd0 k0 k1
        go_wp2_with fail
        refine (HD.out _ (bl_refl _)).mono ?_
        rintro e w6 ⟨rfl, hx0⟩
        go_wp2_with fail
        refine (HPK.out _ hx0).mono ?_
        rintro e w9 ⟨rfl, hy1⟩
        have hx1 := bl_trans hx0 hy1
        have hb9 := hx1
        clear hx0 hx1 hy1
        have HB9 := hide hb9
        clear hb9
        have HSQ := hide (HSEQ.out w9 HB9.out)
        go_wp2_with fail
        refine HSQ.out.mono ?_
        rintro e w2 ⟨t, rfl, hb2, hrx, her, hfr⟩
        have M9 : Hid (Mv (w.alloc (.cells #[.int .i64 0, .string ⟨#[]⟩, .bool false, .slice none 0 0, .int .i64 0, .int .i64 0, .bool false, .slice none 0 0] 25)) w9 b s l1) := hide (HM.out.bl HB9.out)
        have M2 : Hid (Mv (w.alloc (.cells #[.int .i64 0, .string ⟨#[]⟩, .bool false, .slice none 0 0, .int .i64 0, .int .i64 0, .bool false, .slice none 0 0] 25)) w2 b s l1) := hide (M9.out.bl hb2)
        have z0 : w2.cell? ⟨w.heap.size, 0, none⟩ = some (.int .i64 0) := M2.out.cell (cells_lit w _ _ 0 _ rfl) HNB.out
        have z1 : w2.cell? ⟨w.heap.size, 1, none⟩ = some (.string ⟨#[]⟩) := M2.out.cell (cells_lit w _ _ 1 _ rfl) HNB.out
        have z2 : w2.cell? ⟨w.heap.size, 2, none⟩ = some (.bool false) := M2.out.cell (cells_lit w _ _ 2 _ rfl) HNB.out
        have z3 : w2.cell? ⟨w.heap.size, 3, none⟩ = some (.slice none 0 0) := M2.out.cell (cells_lit w _ _ 3 _ rfl) HNB.out
        have z4 : w2.cell? ⟨w.heap.size, 4, none⟩ = some (.int .i64 0) := M2.out.cell (cells_lit w _ _ 4 _ rfl) HNB.out
        have z5 : w2.cell? ⟨w.heap.size, 5, none⟩ = some (.int .i64 0) := M2.out.cell (cells_lit w _ _ 5 _ rfl) HNB.out
        have z6 : w2.cell? ⟨w.heap.size, 6, none⟩ = some (.bool false) := M2.out.cell (cells_lit w _ _ 6 _ rfl) HNB.out
        have z7 : w2.cell? ⟨w.heap.size, 7, none⟩ = some (.slice none 0 0) := M2.out.cell (cells_lit w _ _ 7 _ rfl) HNB.out
        have hf3 : ∀ o, w2.frozen? ⟨w.heap.size, o, none⟩ = false := fun o => (M2.out.frz (p := ⟨w.heap.size, o, none⟩) (by simp) HNB.out).trans (by go_simp)
        have hs3 : w.heap.size < w2.heap.size := Nat.lt_of_lt_of_le (by simp) M2.out.fr
        obtain ⟨tA, tc, htrv⟩ := rwat_len hrx.rows
        obtain ⟨tB, td, htkv⟩ := ksat_len hrx.ks
        have HTV := hide (show t.v = .agg #[.int .i64 t.k, .string t.ch, .bool t.nt, .slice tA t.rows.length tc, .int .i64 t.mi, .int .i64 t.ma, .bool t.lz, .slice tB t.kids.length td] by unfold Rt.v Rt.cs; rw [htrv, htkv])
        have HCS := hide (show t.cs = [.int .i64 t.k, .string t.ch, .bool t.nt, .slice tA t.rows.length tc, .int .i64 t.mi, .int .i64 t.ma, .bool t.lz, .slice tB t.kids.length td] by unfold Rt.cs; rw [htrv, htkv])
        rw [HTV.out]
        have HRX := hide hrx
        have HFR := hide hfr
        have HB2 := hide hb2
        have HER := hide (HEX.out w9 t _ HB9.out rfl her)
        have hs9 : w.heap.size + 1 ≤ w9.heap.size := by have := M9.out.fr; simpa using this
        have HS9 := hide hs9
        clear hb2 hrx hfr her htrv htkv hs9
        go_wp2
        refine bodyPost_ret (v := .tuple #[.agg #[.int .i64 t.k, .string t.ch, .bool t.nt, .slice tA t.rows.length tc, .int .i64 t.mi, .int .i64 t.ma, .bool t.lz, .slice tB t.kids.length td], .int .i64 0]) ?_ rfl (sq_pass ((HS.out.pl.self (bl_alloc (bl_refl w) _)).trans M9.out) HNB.out HB2.out HRX.out HFR.out HS9.out HER.out _ _ _ _ _ _ _ _ _ _ _ _ _ _ _ _ _ HTV.out.symm)
        rw [results_cell2 rfl]
        go_simp
      have k2 : (hdC l1 == [41]) = true := by
        have := hE0
        unfold endB at this
        rw [k0, k1] at this
        simpa using this
      clear hE0
      obtain ⟨u1, v1⟩ := lit_eq (bsC (hdC l1)) #[124] false (by rw [bsC_data]; exact k1)
      obtain ⟨u2, v2⟩ := lit_eq (bsC (hdC l1)) #[41] true (by rw [bsC_data]; exact k2)
      obtain ⟨C, hC⟩ : ∃ C, bsC (hdC l1) = C := ⟨_, rfl⟩
      rw [hC] at HPK u1 v1 u2 v2
      clear hC
      have HD := hide (hd0 false k0)
      clear hd0 k0 k1 k2
      go_wp2_with fail
      refine (HD.out _ (bl_refl _)).mono ?_
      rintro e w6 ⟨rfl, hx0⟩
      go_wp2_with fail
      refine (HPK.out _ hx0).mono ?_
      rintro e w7 ⟨rfl, hy1⟩
      have hx1 := bl_trans hx0 hy1
      go_wp2_with fail
      refine (HPK.out _ hx1).mono ?_
      rintro e w9 ⟨rfl, hy2⟩
      have hx2 := bl_trans hx1 hy2
      have hb9 := hx2
      clear hx0 hx1 hx2 hy1 hy2
      have HB9 := hide hb9
      clear hb9
      have HSQ := hide (HSEQ.out w9 HB9.out)
      go_wp2_with fail
      refine HSQ.out.mono ?_
      rintro e w2 ⟨t, rfl, hb2, hrx, her, hfr⟩
      have M9 : Hid (Mv (w.alloc (.cells #[.int .i64 0, .string ⟨#[]⟩, .bool false, .slice none 0 0, .int .i64 0, .int .i64 0, .bool false, .slice none 0 0] 25)) w9 b s l1) := hide (HM.out.bl HB9.out)
      have M2 : Hid (Mv (w.alloc (.cells #[.int .i64 0, .string ⟨#[]⟩, .bool false, .slice none 0 0, .int .i64 0, .int .i64 0, .bool false, .slice none 0 0] 25)) w2 b s l1) := hide (M9.out.bl hb2)
      have z0 : w2.cell? ⟨w.heap.size, 0, none⟩ = some (.int .i64 0) := M2.out.cell (cells_lit w _ _ 0 _ rfl) HNB.out
      have z1 : w2.cell? ⟨w.heap.size, 1, none⟩ = some (.string ⟨#[]⟩) := M2.out.cell (cells_lit w _ _ 1 _ rfl) HNB.out
      have z2 : w2.cell? ⟨w.heap.size, 2, none⟩ = some (.bool false) := M2.out.cell (cells_lit w _ _ 2 _ rfl) HNB.out
      have z3 : w2.cell? ⟨w.heap.size, 3, none⟩ = some (.slice none 0 0) := M2.out.cell (cells_lit w _ _ 3 _ rfl) HNB.out
      have z4 : w2.cell? ⟨w.heap.size, 4, none⟩ = some (.int .i64 0) := M2.out.cell (cells_lit w _ _ 4 _ rfl) HNB.out
      have z5 : w2.cell? ⟨w.heap.size, 5, none⟩ = some (.int .i64 0) := M2.out.cell (cells_lit w _ _ 5 _ rfl) HNB.out
      have z6 : w2.cell? ⟨w.heap.size, 6, none⟩ = some (.bool false) := M2.out.cell (cells_lit w _ _ 6 _ rfl) HNB.out
      have z7 : w2.cell? ⟨w.heap.size, 7, none⟩ = some (.slice none 0 0) := M2.out.cell (cells_lit w _ _ 7 _ rfl) HNB.out
      have hf3 : ∀ o, w2.frozen? ⟨w.heap.size, o, none⟩ = false := fun o => (M2.out.frz (p := ⟨w.heap.size, o, none⟩) (by simp) HNB.out).trans (by go_simp)
      have hs3 : w.heap.size < w2.heap.size := Nat.lt_of_lt_of_le (by simp) M2.out.fr
      obtain ⟨tA, tc, htrv⟩ := rwat_len hrx.rows
      obtain ⟨tB, td, htkv⟩ := ksat_len hrx.ks
      have HTV := hide (show t.v = .agg #[.int .i64 t.k, .string t.ch, .bool t.nt, .slice tA t.rows.length tc, .int .i64 t.mi, .int .i64 t.ma, .bool t.lz, .slice tB t.kids.length td] by unfold Rt.v Rt.cs; rw [htrv, htkv])
      have HCS := hide (show t.cs = [.int .i64 t.k, .string t.ch, .bool t.nt, .slice tA t.rows.length tc, .int .i64 t.mi, .int .i64 t.ma, .bool t.lz, .slice tB t.kids.length td] by unfold Rt.cs; rw [htrv, htkv])
      rw [HTV.out]
      have HRX := hide hrx
      have HFR := hide hfr
      have HB2 := hide hb2
      have HER := hide (HEX.out w9 t _ HB9.out rfl her)
      have hs9 : w.heap.size + 1 ≤ w9.heap.size := by have := M9.out.fr; simpa using this
      have HS9 := hide hs9
      clear hb2 hrx hfr her htrv htkv hs9
      go_wp2
      refine bodyPost_ret (v := .tuple #[.agg #[.int .i64 t.k, .string t.ch, .bool t.nt, .slice tA t.rows.length tc, .int .i64 t.mi, .int .i64 t.ma, .bool t.lz, .slice tB t.kids.length td], .int .i64 0]) ?_ rfl (sq_pass ((HS.out.pl.self (bl_alloc (bl_refl w) _)).trans M9.out) HNB.out HB2.out HRX.out HFR.out HS9.out HER.out _ _ _ _ _ _ _ _ _ _ _ _ _ _ _ _ _ HTV.out.symm)
      rw [results_cell2 rfl]
      go_simp
    · rw [if_neg hE] at ho2
      have hb1 : endB l1 = false := Bool.eq_false_iff.2 hE
      have hl1 : l1 ≠ [] := by rintro rfl; exact hE rfl
      unfold endB at hb1
      have k0 : l1.isEmpty = false := by cases q : l1.isEmpty <;> simp [q] at hb1 ⊢
      have k1 : (hdC l1 == [124]) = false := by cases q : (hdC l1 == [124]) <;> simp [q] at hb1 ⊢
      have k2 : (hdC l1 == [41]) = false := by cases q : (hdC l1 == [41]) <;> simp [q] at hb1 ⊢
      have HD := hide (hd0 false k0)
      obtain ⟨u1, v1⟩ := lit_eq (bsC (hdC l1)) #[124] false (by rw [bsC_data]; exact k1)
      obtain ⟨u2, v2⟩ := lit_eq (bsC (hdC l1)) #[41] false (by rw [bsC_data]; exact k2)
      obtain ⟨C, hC⟩ : ∃ C, bsC (hdC l1) = C := ⟨_, rfl⟩
      rw [hC] at u1 v1 u2 v2 HPK
      have HT := hide (fun W (hp : PlG W b s l1 g) => HTM.out W l1 hl1 hp)
      have hgq := HGD.out l1 hl1
      obtain ⟨q, hq⟩ : ∃ q, termP deep pat l1 = q := ⟨_, rfl⟩
      rw [hq] at HT ho2 hgq
      have HO2 := hide ho2
      clear hE hb1 hl1 k0 k1 k2 hd0 hC hq ho2 HO
      go_wp2_with fail
      refine (HD.out _ (bl_refl _)).mono ?_
      rintro e w6 ⟨rfl, hx0⟩
      go_wp2_with fail
      refine (HPK.out _ hx0).mono ?_
      rintro e w7 ⟨rfl, hy1⟩
      have hx1 := bl_trans hx0 hy1
      go_wp2_with fail
      refine (HPK.out _ hx1).mono ?_
      rintro e w9 ⟨rfl, hy2⟩
      have hx2 := bl_trans hx1 hy2
      have hb9 := hx2
      clear hx0 hx1 hx2 hy1 hy2
      have HB9 := hide hb9
      have M9 : Hid (Mv (w.alloc (.cells #[.int .i64 0, .string ⟨#[]⟩, .bool false, .slice none 0 0, .int .i64 0, .int .i64 0, .bool false, .slice none 0 0] 25)) w9 b s l1) := hide (HM.out.bl hb9)
      have HROW9 := hide (own_below HROW.out hb9)
      have HG9 := hide (show ∀ g, (Value.slice A L.length c).ownBlock = some g → g < w9.heap.size from fun g hg => Nat.lt_of_lt_of_le (HROW.out.lt g hg).2 hb9.size)
      clear hb9
      go_wp2_with fail
      refine (HT.out _ (M9.out.plg HP0.out)).mono ?_
      intro e w3 hp
      rcases q with _ | n1 | ⟨x, r3⟩
      · exact hp.elim
      · obtain ⟨rfl, r3, hm3⟩ := hp
        have HRES := hide (show ∀ e w', TrPost w b s (.err n1) e w' → TrPost w b s res e w' from fun e w' h => by have := HO2.out; simp only at this; rw [← this]; exact h)
        have M3 : Hid (Mv (w.alloc (.cells #[.int .i64 0, .string ⟨#[]⟩, .bool false, .slice none 0 0, .int .i64 0, .int .i64 0, .bool false, .slice none 0 0] 25)) w3 b s r3) := hide (M9.out.trans hm3)
        have z0 : w3.cell? ⟨w.heap.size, 0, none⟩ = some (.int .i64 0) := M3.out.cell (cells_lit w _ _ 0 _ rfl) HNB.out
        have z1 : w3.cell? ⟨w.heap.size, 1, none⟩ = some (.string ⟨#[]⟩) := M3.out.cell (cells_lit w _ _ 1 _ rfl) HNB.out
        have z2 : w3.cell? ⟨w.heap.size, 2, none⟩ = some (.bool false) := M3.out.cell (cells_lit w _ _ 2 _ rfl) HNB.out
        have z3 : w3.cell? ⟨w.heap.size, 3, none⟩ = some (.slice none 0 0) := M3.out.cell (cells_lit w _ _ 3 _ rfl) HNB.out
        have z4 : w3.cell? ⟨w.heap.size, 4, none⟩ = some (.int .i64 0) := M3.out.cell (cells_lit w _ _ 4 _ rfl) HNB.out
        have z5 : w3.cell? ⟨w.heap.size, 5, none⟩ = some (.int .i64 0) := M3.out.cell (cells_lit w _ _ 5 _ rfl) HNB.out
        have z6 : w3.cell? ⟨w.heap.size, 6, none⟩ = some (.bool false) := M3.out.cell (cells_lit w _ _ 6 _ rfl) HNB.out
        have z7 : w3.cell? ⟨w.heap.size, 7, none⟩ = some (.slice none 0 0) := M3.out.cell (cells_lit w _ _ 7 _ rfl) HNB.out
        have hf3 : ∀ o, w3.frozen? ⟨w.heap.size, o, none⟩ = false := fun o => (M3.out.frz (p := ⟨w.heap.size, o, none⟩) (by simp) HNB.out).trans (by go_simp)
        have hs3 : w.heap.size < w3.heap.size := Nat.lt_of_lt_of_le (by simp) M3.out.fr
        rw [show rt0.v = .agg #[.int .i64 0, .string ⟨#[]⟩, .bool false, .slice none 0 0, .int .i64 0, .int .i64 0, .bool false, .slice none 0 0] from rfl]
        clear hm3 HO2
        rcases hgq with rfl | rfl
        · go_wp2
          refine bodyPost_ret (v := .tuple #[.agg #[.int .i64 0, .string ⟨#[]⟩, .bool false, .slice none 0 0, .int .i64 0, .int .i64 0, .bool false, .slice none 0 0], .int .i64 8]) ?_ rfl (HRES.out _ _ ⟨rfl, _, (mv8 ((HS.out.pl.self (bl_alloc (bl_refl w) _)).trans M3.out) HNB.out (Nat.le_refl _) _ _ _ _ _ _ _ _ _ _ _ _ _ _ _ _).bl (bl_alloc (bl_refl _) _)⟩)
          rw [results_cell2 rfl]
          go_simp
        · go_wp2
          refine bodyPost_ret (v := .tuple #[.agg #[.int .i64 0, .string ⟨#[]⟩, .bool false, .slice none 0 0, .int .i64 0, .int .i64 0, .bool false, .slice none 0 0], .int .i64 10]) ?_ rfl (HRES.out _ _ ⟨rfl, _, (mv8 ((HS.out.pl.self (bl_alloc (bl_refl w) _)).trans M3.out) HNB.out (Nat.le_refl _) _ _ _ _ _ _ _ _ _ _ _ _ _ _ _ _).bl (bl_alloc (bl_refl _) _)⟩)
          rw [results_cell2 rfl]
          go_simp
      · obtain ⟨t, rfl, hm3, hrx, hfr, her⟩ := hp
        subst her
        simp only at HO2
        obtain ⟨gd1, gd2, _⟩ := hgq
        rw [sM_er] at gd2
        have HGQ := hide (And.intro gd1 gd2)
        have M3 : Hid (Mv (w.alloc (.cells #[.int .i64 0, .string ⟨#[]⟩, .bool false, .slice none 0 0, .int .i64 0, .int .i64 0, .bool false, .slice none 0 0] 25)) w3 b s r3) := hide (M9.out.trans hm3)
        have HROW3 := hide (own_mv HROW9.out hm3 (Nat.lt_succ_of_lt HBW.out))
        have HFR := hide (hfr.mono (show w.heap.size + 1 ≤ w9.heap.size by have := M9.out.fr; simpa using this))
        have HOFF := hide (show ∀ g, (Value.slice A L.length c).ownBlock = some g → Off g t from fun g hg => off_fr hfr (HG9.out g hg))
        have HALL3 := hide (show ∀ W, Below w3.heap.size w3 W → ∀ x ∈ L, (RxAt W x ∧ ∀ g, (Value.slice A L.length c).ownBlock = some g → Off g x) ∧ Fr (w.heap.size + 1) x from fun W hW x hx => ⟨⟨rx_below (rx_kept (rx_below (HALL.out x hx).1.1 HB9.out) (HALL.out x hx).2 (mv_kept hm3 (Nat.lt_succ_of_lt HBW.out))) hW, (HALL.out x hx).1.2⟩, (HALL.out x hx).2⟩)
        obtain ⟨tA, tc, htrv⟩ := rwat_len hrx.rows
        obtain ⟨tB, td, htkv⟩ := ksat_len hrx.ks
        have HTV := hide (show t.v = .agg #[.int .i64 t.k, .string t.ch, .bool t.nt, .slice tA t.rows.length tc, .int .i64 t.mi, .int .i64 t.ma, .bool t.lz, .slice tB t.kids.length td] by unfold Rt.v Rt.cs; rw [htrv, htkv])
        have HCS := hide (show t.cs = [.int .i64 t.k, .string t.ch, .bool t.nt, .slice tA t.rows.length tc, .int .i64 t.mi, .int .i64 t.ma, .bool t.lz, .slice tB t.kids.length td] by unfold Rt.cs; rw [htrv, htkv])
        rw [HTV.out]
        have HRX := hide hrx
        have HONE := hide (show ∀ u ∈ ([.int .i64 t.k, .string t.ch, .bool t.nt, .slice tA t.rows.length tc, .int .i64 t.mi, .int .i64 t.ma, .bool t.lz, .slice tB t.kids.length td] : List Value), u.oneCell' = true by rw [← HCS.out]; intro u hu; exact one_cellX (w := w3) [t] (fun x hx => by obtain rfl : x = t := (by simpa using hx); exact HRX.out) u (by simpa [flatX] using hu))
        have HOWN := hide (fun (W : World) (hb : Below w3.heap.size w3 W) => own_below HROW3.out hb)
        have hb3 : w.heap.size + 1 ≤ w3.heap.size := by have := M3.out.fr; simpa using this
        have HB3 := hide hb3
        clear hm3 hrx hfr htrv htkv hb3 gd1 gd2
        go_wp2_with (at_builtin; go_must (refine wpList_src5 _ rfl _ _ 23 rfl (w.heap.size + 1) 25 i0 rt0.v 8 104 Tryz.underlying23 hi0 hz0' hz1 hz2 rfl (by decide) (.slice A L.length c) L.length (flatX L) rfl (HOWN.out _ (bl_alloc (bl_alloc (bl_refl w3) _) _)) (some ⟨_, 0, none⟩) 1 1 [.int .i64 t.k, .string t.ch, .bool t.nt, .slice tA t.rows.length tc, .int .i64 t.mi, .int .i64 t.ma, .bool t.lz, .slice tB t.kids.length td] rfl (src_block (cs := #[.int .i64 t.k, .string t.ch, .bool t.nt, .slice tA t.rows.length tc, .int .i64 t.mi, .int .i64 t.ma, .bool t.lz, .slice tB t.kids.length td]) (heap_new (by simp)) rfl) HONE.out (by omega) (by decide) (Nat.le_trans HB3.out (bl_alloc (bl_alloc (bl_refl w3) _) _).size) ?_); intro v' w4 hv4 hg4 h5)
        have HBB := hide (bl_alloc (bl_alloc (bl_refl w3) (.cells #[.int .i64 t.k, .string t.ch, .bool t.nt, .slice tA t.rows.length tc, .int .i64 t.mi, .int .i64 t.ma, .bool t.lz, .slice tB t.kids.length td] 25)) (.cells #[.int .i64 t.k, .string t.ch, .bool t.nt, .slice tA t.rows.length tc, .int .i64 t.mi, .int .i64 t.ma, .bool t.lz, .slice tB t.kids.length td] 25))
        rw [← HCS.out] at hv4
        obtain ⟨B, d, rfl, hown4, hall4⟩ := row_step (HALL3.out _ HBB.out) (rx_below HRX.out HBB.out) HFR.out HOFF.out hv4 hg4 h5
        have hm4 := (M3.out.bl HBB.out).appendv (HOWN.out _ HBB.out) hg4 (Nat.lt_succ_of_lt HBW.out) (by simp)
        have HM4 := hide hm4
        have HROW4 := hide hown4
        have HALL4 := hide hall4
        have HLEN := hide (show Value.slice B (L.length + 1) d = .slice B (L ++ [t]).length d by rw [List.length_append]; rfl)
        have HO4 := hide (show termsP deep pat n ((L ++ [t]).map er) r3 = res by rw [List.map_append]; exact HO2.out)
        have HNL := hide (show r3.length < n ∧ (L ++ [t]).length + r3.length ≤ 256 by have := HGQ.out.1; rw [List.length_append]; simp only [List.length_cons, List.length_nil]; omega)
        have HSZ4 := hide (show sL (L ++ [t]) + 8 * r3.length ≤ 4000 by have := HGQ.out.2; have := HSZ.out; rw [sL_app]; simp only [sL]; omega)
        have HMS := hide (show s.size - posOf w4 b < s.size - posOf wr b by rw [posOf_mv hm4, posOf_mv HM.out]; have := HGQ.out.1; have := HPL.out.pl.le; omega)
        clear hv4 hg4 h5 hm4 hown4 hall4
        go_wp2
        refine ⟨?_, HMS.out⟩
        first
          | exact ⟨L ++ [t], r3, n, B, d, HLEN.out, HROW4, HM4, HO4, HNL.out.1, HNL.out.2, HSZ4, HALL4⟩
          | ((repeat apply Exists.intro); exact ⟨⟨L ++ [t], r3, n, B, d, HLEN.out, HROW4, HM4, HO4, HNL.out.1, HNL.out.2, HSZ4, HALL4⟩, rfl⟩)
end
section
open Go.ChangeShapes Go.WideShapes Go.ChangeAt Go.RowKit
open SetM
attribute [local go_sem ↓] Go.wp_at_zero Go.wp_at_succ
set_option maxRecDepth 100000
set_option linter.unusedVariables false
set_option maxHeartbeats 16000000 in
theorem rdpattern_any {w : World} {b g : Nat} {s : ByteArray} {l : List UInt8} (h : PlG w b s l g) (hs : s.size ≤ 256) (deep : Bool) (pat : List UInt8 → Res)
    (HALT : ∀ W l', PlG W b s l' g → Calls Tryz.prog 21 #[.pointer (some ⟨b, 0, none⟩)] W (TrPost W b s (termsP deep pat (l'.length + 1) [] l'))) (hgd : ∀ l, Gd 0 1 l (termsP deep pat (l.length + 1) [] l))
    (res : Res) (ho : altsP deep pat (l.length + 1) [] l = res) : Calls Tryz.prog 11 #[.pointer (some ⟨b, 0, none⟩)] w (TrPost w b s res) := by
  obtain ⟨i0, hi0, hz0', hz1, hz2⟩ := info_parts info_rx
  have hbw : b < w.heap.size := World.block_lt_of_cell? _ _ h.gr
  have HS := hide h
  have HNB := hide (show w.heap.size ≠ b by omega)
  have HBW := hide hbw
  have HP0 := hide (show PlG (w.alloc (.cells #[.int .i64 0, .string ⟨#[]⟩, .bool false, .slice none 0 0, .int .i64 0, .int .i64 0, .bool false, .slice none 0 0] 25)) b s l g from h.bl (bl_alloc (bl_refl w) _))
  have HTM := hide HALT
  have HGD := hide hgd
  have HO0 := hide ho
  have HL0 := hide (show ([] : List Rt).length + l.length ≤ 256 by simp only [List.length_nil]; have := h.pl.le; omega)
  have HM0 := hide (HP0.out.pl.self (bl_refl _))
  clear h hbw HALT hgd ho
  go_enter Tryz.func11, Tryz.ntmps11
  go_wp2
  go_loopw [4] (fun v wr => ∃ (L : List Rt) (l1 : List UInt8) (n : Nat) (A : Option Addr) (c : Nat), v = .slice A L.length c ∧ Hid (wr.ownsRow (w.heap.size + 1) 25 8 (.slice A L.length c) L.length (flatX L)) ∧ Hid (Mv (w.alloc (.cells #[.int .i64 0, .string ⟨#[]⟩, .bool false, .slice none 0 0, .int .i64 0, .int .i64 0, .bool false, .slice none 0 0] 25)) wr b s l1) ∧ Hid (altsP deep pat n (L.map er) l1 = res) ∧ l1.length < n ∧ L.length + l1.length ≤ 256 ∧ Hid (sL L + 8 * l1.length ≤ 4000) ∧ Hid (∀ x ∈ L, (RxAt wr x ∧ ∀ g, (Value.slice A L.length c).ownBlock = some g → Off g x) ∧ Fr (w.heap.size + 1) x)) (fun _ wr => s.size - posOf wr b)
  case atStart => exact ⟨[], l, l.length + 1, none, 0, rfl, hide ⟨by simp [flatX], .inl ⟨rfl, rfl⟩⟩, HM0, HO0, Nat.lt_succ_self _, HL0.out, hide (by have := HL0.out; simp only [sL, List.length_nil] at this ⊢; omega), hide (fun x hx => by cases hx)⟩
  case round =>
    obtain ⟨L, l1, n, A, c, rfl, HROW, HM, HO, hn, hal, HSZ, HALL⟩ := hrel
    obtain ⟨n, rfl⟩ : ∃ k, n = k + 1 := ⟨n - 1, by omega⟩
    have HPL := hide (HM.out.plg HP0.out)
    have ho2 := HO.out
    rw [altsP] at ho2
    have HT := hide (fun W (hp : PlG W b s l1 g) => HTM.out W l1 hp)
    have hgq := HGD.out l1
    obtain ⟨q, hq⟩ : ∃ q, termsP deep pat (l1.length + 1) [] l1 = q := ⟨_, rfl⟩
    rw [hq] at HT ho2 hgq
    have HO2 := hide ho2
    have HG9 := hide (show ∀ g, (Value.slice A L.length c).ownBlock = some g → g < wr.heap.size from fun g hg => (HROW.out.lt g hg).2)
    clear hq ho2 HO
    go_wp2_with fail
    refine (HT.out _ HPL.out).mono ?_
    intro e w3 hp
    rcases q with _ | n1 | ⟨x, r3⟩
    · exact hp.elim
    · obtain ⟨rfl, r3, hm3⟩ := hp
      have HRES := hide (show ∀ e w', TrPost w b s (.err n1) e w' → TrPost w b s res e w' from fun e w' h => by have := HO2.out; simp only at this; rw [← this]; exact h)
      have M3 : Hid (Mv (w.alloc (.cells #[.int .i64 0, .string ⟨#[]⟩, .bool false, .slice none 0 0, .int .i64 0, .int .i64 0, .bool false, .slice none 0 0] 25)) w3 b s r3) := hide (HM.out.trans hm3)
      have z0 : w3.cell? ⟨w.heap.size, 0, none⟩ = some (.int .i64 0) := M3.out.cell (cells_lit w _ _ 0 _ rfl) HNB.out
      have z1 : w3.cell? ⟨w.heap.size, 1, none⟩ = some (.string ⟨#[]⟩) := M3.out.cell (cells_lit w _ _ 1 _ rfl) HNB.out
      have z2 : w3.cell? ⟨w.heap.size, 2, none⟩ = some (.bool false) := M3.out.cell (cells_lit w _ _ 2 _ rfl) HNB.out
      have z3 : w3.cell? ⟨w.heap.size, 3, none⟩ = some (.slice none 0 0) := M3.out.cell (cells_lit w _ _ 3 _ rfl) HNB.out
      have z4 : w3.cell? ⟨w.heap.size, 4, none⟩ = some (.int .i64 0) := M3.out.cell (cells_lit w _ _ 4 _ rfl) HNB.out
      have z5 : w3.cell? ⟨w.heap.size, 5, none⟩ = some (.int .i64 0) := M3.out.cell (cells_lit w _ _ 5 _ rfl) HNB.out
      have z6 : w3.cell? ⟨w.heap.size, 6, none⟩ = some (.bool false) := M3.out.cell (cells_lit w _ _ 6 _ rfl) HNB.out
      have z7 : w3.cell? ⟨w.heap.size, 7, none⟩ = some (.slice none 0 0) := M3.out.cell (cells_lit w _ _ 7 _ rfl) HNB.out
      have hf3 : ∀ o, w3.frozen? ⟨w.heap.size, o, none⟩ = false := fun o => (M3.out.frz (p := ⟨w.heap.size, o, none⟩) (by simp) HNB.out).trans (by go_simp)
      have hs3 : w.heap.size < w3.heap.size := Nat.lt_of_lt_of_le (by simp) M3.out.fr
      rw [show rt0.v = .agg #[.int .i64 0, .string ⟨#[]⟩, .bool false, .slice none 0 0, .int .i64 0, .int .i64 0, .bool false, .slice none 0 0] from rfl]
      clear hm3 HO2
      rcases hgq with rfl | rfl
      · go_wp2
        refine bodyPost_ret (v := .tuple #[.agg #[.int .i64 0, .string ⟨#[]⟩, .bool false, .slice none 0 0, .int .i64 0, .int .i64 0, .bool false, .slice none 0 0], .int .i64 8]) ?_ rfl (HRES.out _ _ ⟨rfl, _, (mv8 ((HS.out.pl.self (bl_alloc (bl_refl w) _)).trans M3.out) HNB.out (Nat.le_refl _) _ _ _ _ _ _ _ _ _ _ _ _ _ _ _ _).bl (bl_alloc (bl_refl _) _)⟩)
        rw [results_cell2 rfl]
        go_simp
      · go_wp2
        refine bodyPost_ret (v := .tuple #[.agg #[.int .i64 0, .string ⟨#[]⟩, .bool false, .slice none 0 0, .int .i64 0, .int .i64 0, .bool false, .slice none 0 0], .int .i64 10]) ?_ rfl (HRES.out _ _ ⟨rfl, _, (mv8 ((HS.out.pl.self (bl_alloc (bl_refl w) _)).trans M3.out) HNB.out (Nat.le_refl _) _ _ _ _ _ _ _ _ _ _ _ _ _ _ _ _).bl (bl_alloc (bl_refl _) _)⟩)
        rw [results_cell2 rfl]
        go_simp
    · obtain ⟨t, rfl, hm3, hrx, hfr, her⟩ := hp
      subst her
      simp only at HO2
      obtain ⟨gd1, gd2, _⟩ := hgq
      rw [sM_er] at gd2
      have HGQ := hide (And.intro gd1 gd2)
      obtain ⟨qt, hqt⟩ : ∃ q, (hdC r3 == [124]) = q := ⟨_, rfl⟩
      have HTK := hide (fun W (hp : Pl W b s r3) => pos_take hp ⟨#[124]⟩ qt hqt)
      have HQT := hide hqt
      have M3 : Hid (Mv (w.alloc (.cells #[.int .i64 0, .string ⟨#[]⟩, .bool false, .slice none 0 0, .int .i64 0, .int .i64 0, .bool false, .slice none 0 0] 25)) w3 b s r3) := hide (HM.out.trans hm3)
      have HROW3 := hide (own_mv HROW.out hm3 (Nat.lt_succ_of_lt HBW.out))
      have HFR := hide (hfr.mono (show w.heap.size + 1 ≤ wr.heap.size by have := HM.out.fr; simpa using this))
      have HOFF := hide (show ∀ g, (Value.slice A L.length c).ownBlock = some g → Off g t from fun g hg => off_fr hfr (HG9.out g hg))
      have HALL3 := hide (show ∀ W, Below w3.heap.size w3 W → ∀ x ∈ L, (RxAt W x ∧ ∀ g, (Value.slice A L.length c).ownBlock = some g → Off g x) ∧ Fr (w.heap.size + 1) x from fun W hW x hx => ⟨⟨rx_below (rx_kept (HALL.out x hx).1.1 (HALL.out x hx).2 (mv_kept hm3 (Nat.lt_succ_of_lt HBW.out))) hW, (HALL.out x hx).1.2⟩, (HALL.out x hx).2⟩)
      obtain ⟨tA, tc, htrv⟩ := rwat_len hrx.rows
      obtain ⟨tB, td, htkv⟩ := ksat_len hrx.ks
      have HTV := hide (show t.v = .agg #[.int .i64 t.k, .string t.ch, .bool t.nt, .slice tA t.rows.length tc, .int .i64 t.mi, .int .i64 t.ma, .bool t.lz, .slice tB t.kids.length td] by unfold Rt.v Rt.cs; rw [htrv, htkv])
      have HCS := hide (show t.cs = [.int .i64 t.k, .string t.ch, .bool t.nt, .slice tA t.rows.length tc, .int .i64 t.mi, .int .i64 t.ma, .bool t.lz, .slice tB t.kids.length td] by unfold Rt.cs; rw [htrv, htkv])
      rw [HTV.out]
      have HRX := hide hrx
      have HONE := hide (show ∀ u ∈ ([.int .i64 t.k, .string t.ch, .bool t.nt, .slice tA t.rows.length tc, .int .i64 t.mi, .int .i64 t.ma, .bool t.lz, .slice tB t.kids.length td] : List Value), u.oneCell' = true by rw [← HCS.out]; intro u hu; exact one_cellX (w := w3) [t] (fun x hx => by obtain rfl : x = t := (by simpa using hx); exact HRX.out) u (by simpa [flatX] using hu))
      have HOWN := hide (fun (W : World) (hb : Below w3.heap.size w3 W) => own_below HROW3.out hb)
      have hb3 : w.heap.size + 1 ≤ w3.heap.size := by have := M3.out.fr; simpa using this
      have HB3 := hide hb3
      clear hm3 hrx hfr htrv htkv hb3 gd1 gd2 hqt
      go_wp2_with (at_builtin; go_must (refine wpList_src5 _ rfl _ _ 23 rfl (w.heap.size + 1) 25 i0 rt0.v 8 104 Tryz.underlying23 hi0 hz0' hz1 hz2 rfl (by decide) (.slice A L.length c) L.length (flatX L) rfl (HOWN.out _ (bl_alloc (bl_alloc (bl_refl w3) _) _)) (some ⟨_, 0, none⟩) 1 1 [.int .i64 t.k, .string t.ch, .bool t.nt, .slice tA t.rows.length tc, .int .i64 t.mi, .int .i64 t.ma, .bool t.lz, .slice tB t.kids.length td] rfl (src_block (cs := #[.int .i64 t.k, .string t.ch, .bool t.nt, .slice tA t.rows.length tc, .int .i64 t.mi, .int .i64 t.ma, .bool t.lz, .slice tB t.kids.length td]) (heap_new (by simp)) rfl) HONE.out (by omega) (by decide) (Nat.le_trans HB3.out (bl_alloc (bl_alloc (bl_refl w3) _) _).size) ?_); intro v' w4 hv4 hg4 h5)
      have HBB := hide (bl_alloc (bl_alloc (bl_refl w3) (.cells #[.int .i64 t.k, .string t.ch, .bool t.nt, .slice tA t.rows.length tc, .int .i64 t.mi, .int .i64 t.ma, .bool t.lz, .slice tB t.kids.length td] 25)) (.cells #[.int .i64 t.k, .string t.ch, .bool t.nt, .slice tA t.rows.length tc, .int .i64 t.mi, .int .i64 t.ma, .bool t.lz, .slice tB t.kids.length td] 25))
      rw [← HCS.out] at hv4
      obtain ⟨B, d, rfl, hown4, hall4⟩ := row_step (HALL3.out _ HBB.out) (rx_below HRX.out HBB.out) HFR.out HOFF.out hv4 hg4 h5
      have hm4 := (M3.out.bl HBB.out).appendv (HOWN.out _ HBB.out) hg4 (Nat.lt_succ_of_lt HBW.out) (by simp)
      have HM4 := hide hm4
      have HROW4 := hide hown4
      have HALL4 := hide hall4
      have HLL := hide (show (L ++ [t]).length = L.length + 1 by simp)
      have HSZ4 := hide (show sL (L ++ [t]) ≤ 4001 by have := HGQ.out.2; have := HSZ.out; rw [sL_app]; simp only [sL]; omega)
      clear hv4 hg4 h5 hm4 hown4 hall4
      go_wp2_with fail
      refine (HTK.out _ (HM4.out.pl HP0.out.pl)).mono ?_
      rintro e w5 ⟨rfl, hm5⟩
      have M5 : Hid (Mv (w.alloc (.cells #[.int .i64 0, .string ⟨#[]⟩, .bool false, .slice none 0 0, .int .i64 0, .int .i64 0, .bool false, .slice none 0 0] 25)) w5 b s (if qt = true then tlC r3 else r3)) := hide (HM4.out.trans hm5)
      have HROW5 := hide (own_mv HROW4.out hm5 (Nat.lt_succ_of_lt HBW.out))
      have HALL5 := hide (show ∀ x ∈ L ++ [t], (RxAt w5 x ∧ ∀ g, (Value.slice B (L ++ [t]).length d).ownBlock = some g → Off g x) ∧ Fr (w.heap.size + 1) x from fun x hx => ⟨⟨rx_kept (HALL4.out x hx).1.1 (HALL4.out x hx).2 (mv_kept hm5 (Nat.lt_succ_of_lt HBW.out)), (HALL4.out x hx).1.2⟩, (HALL4.out x hx).2⟩)
      clear hm5
      cases qt
      · simp only [Bool.false_eq_true] at M5
        have HRES := hide (show ∀ e w', TrPost w b s (.ok (altX (flK 1 (L ++ [t]))) r3) e w' → TrPost w b s res e w' from fun e w' h => by
          have := HO2.out
          rw [HQT.out, if_neg (by decide), show L.map er ++ [er t] = (L ++ [t]).map er by simp, flK_er] at this
          rw [← this]; exact h)
        have HSQ := hide (altf_any (.slice B (L ++ [t]).length d) (L ++ [t]) w5 (own_ksat HROW5.out) (fun i hi => (HALL5.out _ (List.getElem_mem hi)).1.1) (by have := HSZ4.out; omega))
        unfold SqfPost at HSQ
        rw [HLL.out] at HSQ
        clear HO2
        go_wp2_with fail
        refine HSQ.out.mono ?_
        rintro e w2 ⟨u, rfl, hb2, hrx, hu, hfr⟩
        have M2 : Hid (Mv (w.alloc (.cells #[.int .i64 0, .string ⟨#[]⟩, .bool false, .slice none 0 0, .int .i64 0, .int .i64 0, .bool false, .slice none 0 0] 25)) w2 b s r3) := hide (M5.out.bl hb2)
        have z0 : w2.cell? ⟨w.heap.size, 0, none⟩ = some (.int .i64 0) := M2.out.cell (cells_lit w _ _ 0 _ rfl) HNB.out
        have z1 : w2.cell? ⟨w.heap.size, 1, none⟩ = some (.string ⟨#[]⟩) := M2.out.cell (cells_lit w _ _ 1 _ rfl) HNB.out
        have z2 : w2.cell? ⟨w.heap.size, 2, none⟩ = some (.bool false) := M2.out.cell (cells_lit w _ _ 2 _ rfl) HNB.out
        have z3 : w2.cell? ⟨w.heap.size, 3, none⟩ = some (.slice none 0 0) := M2.out.cell (cells_lit w _ _ 3 _ rfl) HNB.out
        have z4 : w2.cell? ⟨w.heap.size, 4, none⟩ = some (.int .i64 0) := M2.out.cell (cells_lit w _ _ 4 _ rfl) HNB.out
        have z5 : w2.cell? ⟨w.heap.size, 5, none⟩ = some (.int .i64 0) := M2.out.cell (cells_lit w _ _ 5 _ rfl) HNB.out
        have z6 : w2.cell? ⟨w.heap.size, 6, none⟩ = some (.bool false) := M2.out.cell (cells_lit w _ _ 6 _ rfl) HNB.out
        have z7 : w2.cell? ⟨w.heap.size, 7, none⟩ = some (.slice none 0 0) := M2.out.cell (cells_lit w _ _ 7 _ rfl) HNB.out
        have hf3 : ∀ o, w2.frozen? ⟨w.heap.size, o, none⟩ = false := fun o => (M2.out.frz (p := ⟨w.heap.size, o, none⟩) (by simp) HNB.out).trans (by go_simp)
        have hs3 : w.heap.size < w2.heap.size := Nat.lt_of_lt_of_le (by simp) M2.out.fr
        obtain ⟨uA, uc, hurv⟩ := rwat_len hrx.rows
        obtain ⟨uB, ud, hukv⟩ := ksat_len hrx.ks
        have HUV := hide (show u.v = .agg #[.int .i64 u.k, .string u.ch, .bool u.nt, .slice uA u.rows.length uc, .int .i64 u.mi, .int .i64 u.ma, .bool u.lz, .slice uB u.kids.length ud] by unfold Rt.v Rt.cs; rw [hurv, hukv])
        rw [HUV.out]
        have HRU := hide hrx
        have HFU := hide hfr
        have HB2 := hide hb2
        have HU := hide hu
        have hs5 : w.heap.size + 1 ≤ w5.heap.size := by have := M5.out.fr; simpa using this
        have HS5 := hide hs5
        clear hb2 hrx hfr hu hurv hukv hs5
        go_wp2
        refine bodyPost_ret (v := .tuple #[.agg #[.int .i64 u.k, .string u.ch, .bool u.nt, .slice uA u.rows.length uc, .int .i64 u.mi, .int .i64 u.ma, .bool u.lz, .slice uB u.kids.length ud], .int .i64 0]) ?_ rfl (HRES.out _ _ (sq_pass ((HS.out.pl.self (bl_alloc (bl_refl w) _)).trans M5.out) HNB.out HB2.out HRU.out HFU.out HS5.out HU.out _ _ _ _ _ _ _ _ _ _ _ _ _ _ _ _ _ HUV.out.symm))
        rw [results_cell2 rfl]
        go_simp
      · simp only [if_pos] at M5
        have HTS := hide (show (tlC r3).length < r3.length from hd_ne HQT.out)
        have HO4 := hide (show altsP deep pat n ((L ++ [t]).map er) (tlC r3) = res by have := HO2.out; rw [HQT.out, if_pos rfl] at this; rw [List.map_append]; exact this)
        have HLEN := hide (show Value.slice B (L.length + 1) d = .slice B (L ++ [t]).length d by rw [HLL.out])
        have HNL := hide (show (tlC r3).length < n ∧ (L ++ [t]).length + (tlC r3).length ≤ 256 by have := HGQ.out.1; have := HTS.out; rw [HLL.out]; omega)
        have HSZ5 := hide (show sL (L ++ [t]) + 8 * (tlC r3).length ≤ 4000 by have := HGQ.out.2; have := HTS.out; have := HSZ.out; rw [sL_app]; simp only [sL]; omega)
        have HMS := hide (show s.size - posOf w5 b < s.size - posOf wr b by rw [posOf_mv M5.out, posOf_mv HM.out]; have := HGQ.out.1; have := HTS.out; have := HPL.out.pl.le; omega)
        go_wp2
        refine ⟨?_, HMS.out⟩
        first
          | exact ⟨L ++ [t], tlC r3, n, B, d, HLEN.out, HROW5, M5, HO4, HNL.out.1, HNL.out.2, HSZ5, HALL5⟩
          | ((repeat apply Exists.intro); exact ⟨⟨L ++ [t], tlC r3, n, B, d, HLEN.out, HROW5, M5, HO4, HNL.out.1, HNL.out.2, HSZ5, HALL5⟩, rfl⟩)
theorem pattern_any : ∀ (f g : Nat), g + f = 16 → ∀ {b : Nat} {s : ByteArray}, s.size ≤ 256 → ∀ (w : World) (l : List UInt8), PlG w b s l g → Calls Tryz.prog 11 #[.pointer (some ⟨b, 0, none⟩)] w (TrPost w b s (patP (f + 1) l)) := by
  intro f
  induction f with
  | zero =>
    intro g hg b s hs w l h
    have hg : g = 16 := by omega
    subst hg
    have gp : ∀ l, Gd 0 0 l (grpP true (patP 0) l) := grp_gd (fun h => by cases h)
    have ga : ∀ l, l ≠ [] → Gd 1 0 l (atomP true (patP 0) l) := atom_gd (fun h => by cases h)
    have gt : ∀ l, l ≠ [] → Gd 1 0 l (termP true (patP 0) l) := term_gd (fun h => by cases h)
    exact rdpattern_any h hs true (patP 0) (fun W l' h' => rdalternative_any h' hs true (patP 0) (fun W2 l2 hl2 h2 => rdterm_any h2 true (patP 0) (fun W3 l3 h3 => rdatom_any h3 hs true (patP 0) (fun W4 l4 h4 => group_any h4 (Nat.le_refl _) (patP 0) (fun q => absurd q (Nat.lt_irrefl _)) (fun q => absurd q (Nat.lt_irrefl _)) _ rfl) _ rfl) (fun hl => ga _ hl) hl2 _ rfl) gt _ rfl) (fun l => (terms_gd (fun h => by cases h) _ _ _ (Nat.lt_succ_self _)).mono (Nat.le_refl _) (by simp only [sL]; omega)) _ rfl
  | succ f ih =>
    intro g hg b s hs w l h
    have hp : false = false → ∀ l, Gd 0 2 l (patP (f + 1) l) := fun _ => pat_gd f
    have hd : (g == 16) = false := by rw [Bool.eq_false_iff]; intro q; have := beq_iff_eq.1 q; omega
    exact rdpattern_any h hs false (patP (f + 1)) (fun W l' h' => rdalternative_any h' hs false (patP (f + 1)) (fun W2 l2 hl2 h2 => rdterm_any h2 false (patP (f + 1)) (fun W3 l3 h3 => rdatom_any h3 hs false (patP (f + 1)) (fun W4 l4 h4 => group_any h4 (by omega) (patP (f + 1)) (fun _ => hp rfl) (fun _ W5 l5 h5 => ih (g + 1) (by omega) hs W5 l5 h5) _ (by rw [hd])) _ rfl) (fun hl => atom_gd hp _ hl) hl2 _ rfl) (term_gd hp) _ rfl) (fun l => (terms_gd hp _ _ _ (Nat.lt_succ_self _)).mono (Nat.le_refl _) (by simp only [sL]; omega)) _ rfl
end
section
open Go.ChangeShapes Go.WideShapes Go.ChangeAt Go.RowKit
open SetM
attribute [local go_sem ↓] Go.wp_at_zero Go.wp_at_succ
set_option maxRecDepth 100000
set_option linter.unusedVariables false
def contH : List UInt8 → Bool
  | [] => false
  | y :: _ => contB y
def readE : Res → Res
  | .no => .no
  | .err n => .err n
  | .ok x r => if r.isEmpty = true then .ok x r else .err 10
def readP (l : List UInt8) : Res := if 256 < l.length then .err 4 else if contH l = true then .err 10 else readE (patP 17 l)
def RdPost (w : World) : Res → Ending → World → Prop
  | .no, _, _ => False
  | .err n, e, w' => e = .returned (.tuple #[rt0.v, .int .i64 n]) ∧ Below w.heap.size w w'
  | .ok x r, e, w' => ∃ t, e = .returned (.tuple #[t.v, .int .i64 0]) ∧ Below w.heap.size w w' ∧ RxAt w' t ∧ Fr w.heap.size t ∧ er t = x
theorem plg_new (w : World) (s : ByteArray) (hs : s.size ≤ 256) : PlG (w.alloc (.cells #[.string s, .int .i64 0, .int .i64 0] 44)) w.heap.size s s.data.toList 0 := by
  have hl : s.data.toList.length = s.size := Array.length_toList
  refine ⟨⟨⟨?_, ?_⟩, ?_, List.suffix_refl _, by omega⟩, ?_, ?_⟩
  · go_simp
  · rw [hl, Nat.sub_self]; go_simp
  · go_simp
  · go_simp
  · go_simp
theorem plg_new_n (w : World) (s : ByteArray) (hs : s.size ≤ 256) (n : Nat) (hn : w.heap.size = n) : PlG (w.alloc (.cells #[.string s, .int .i64 0, .int .i64 0] 44)) n s s.data.toList 0 := hn ▸ plg_new w s hs
attribute [local go_sem] later_cell later_frozen
set_option maxHeartbeats 16000000 in
theorem read_any (s : ByteArray) (hz : s.size ≤ 1000000) (w : World) (res : Res) (ho : readP s.data.toList = res) : Calls Tryz.prog 4 #[.string s] w (RdPost w res) := by
  have hl : s.data.toList.length = s.size := Array.length_toList
  unfold readP at ho
  rw [hl] at ho
  by_cases h1 : 256 < s.size
  · rw [if_pos h1] at ho
    subst ho
    have g1 : decide (256 < s.size) = true := decide_eq_true h1
    have g1' : decide (256 < (s.size : Int)) = true := decide_eq_true (by omega)
    go_enter Tryz.func4, Tryz.ntmps4
    go_wp2
    refine bodyPost_ret (v := .tuple #[.agg #[.int .i64 0, .string ⟨#[]⟩, .bool false, .slice none 0 0, .int .i64 0, .int .i64 0, .bool false, .slice none 0 0], .int .i64 4]) ?_ rfl ⟨rfl, bl_alloc (bl_refl w) _⟩
    rw [results_cell2 rfl]
    go_simp
  rw [if_neg h1] at ho
  have g1 : decide (256 < s.size) = false := decide_eq_false h1
  have g1' : decide (256 < (s.size : Int)) = false := decide_eq_false (by omega)
  by_cases h2 : contH s.data.toList = true
  · rw [if_pos h2] at ho
    subst ho
    have hp : 0 < s.size := by
      rcases Nat.eq_zero_or_pos s.size with h0 | h0
      · rw [List.eq_nil_of_length_eq_zero (hl.trans h0)] at h2; cases h2
      · exact h0
    have hc : contB (s[0]'hp) = true := by
      have e : s.data.toList = s[0] :: s.data.toList.tail := by
        cases hd : s.data.toList with
        | nil => rw [hd] at hl; simp at hl; omega
        | cons y r =>
          have : s[0] = y := by
            have h3 : s.data.toList[0]? = some y := by rw [hd]; rfl
            have h4 : s.data.toList[0]? = some s[0] := by
              rw [List.getElem?_eq_getElem (by omega)]; rfl
            rw [h3] at h4; exact (Option.some.inj h4).symm
          rw [this]; rfl
      rw [e] at h2; exact h2
    have k0 : s.toList.isEmpty = false := by
      rw [Go.ByteArray.toList_eq]
      cases hd : s.data.toList with
      | nil => rw [hd] at hl; simp at hl; omega
      | cons y r => rfl
    have i0 : (0 : Int) < (s.size : Int) := by omega
    have HC := hide (fun W => contc_any (s[0]'hp) _ true W rfl hc)
    clear h2 hc h1 hl
    go_enter Tryz.func4, Tryz.ntmps4
    go_wp2_with fail
    refine (HC.out _).mono ?_
    rintro e w1 ⟨rfl, rfl⟩
    go_wp2
    refine bodyPost_ret (v := .tuple #[.agg #[.int .i64 0, .string ⟨#[]⟩, .bool false, .slice none 0 0, .int .i64 0, .int .i64 0, .bool false, .slice none 0 0], .int .i64 10]) ?_ rfl ⟨rfl, bl_alloc (bl_refl w) _⟩
    rw [results_cell2 rfl]
    go_simp
  rw [if_neg h2] at ho
  have h2 : contH s.data.toList = false := Bool.eq_false_iff.2 h2
  have HPT := hide (fun W n (hn : W.heap.size = n) => pattern_any 16 0 rfl (by omega : s.size ≤ 256) (W.alloc (.cells #[.string s, .int .i64 0, .int .i64 0] 44)) s.data.toList (plg_new_n W s (by omega) n hn))
  have hgp := pat_gd 16 s.data.toList
  obtain ⟨p, hp⟩ : ∃ p, patP 17 s.data.toList = p := ⟨_, rfl⟩
  rw [hp] at HPT hgp ho
  have HLE := hide (show s.size ≤ 256 by omega)
  have HL := hide hl
  have HO := hide ho
  have HGP := hide hgp
  have HH2 := hide h2
  clear hp hl h1 hz ho hgp h2
  by_cases he : s.size = 0
  · have k0 : s.toList.isEmpty = true := by
      rw [Go.ByteArray.toList_eq, List.eq_nil_of_length_eq_zero (HL.out.trans he)]; rfl
    clear he
    go_enter Tryz.func4, Tryz.ntmps4
    go_wp2_with fail
    refine (HPT.out (w.alloc (.cells #[.int .i64 0, .string ⟨#[]⟩, .bool false, .slice none 0 0, .int .i64 0, .int .i64 0, .bool false, .slice none 0 0] 25)) _ (by simp)).mono ?_
    intro e w3 hp
    have ho := HO.out
    have hgp := HGP.out
    clear HO HGP
    rcases p with _ | n | ⟨x, r3⟩
    · exact hp.elim
    · obtain ⟨rfl, r3, hm3⟩ := hp
      simp only [readE] at ho
      subst ho
      have M3 : Hid (Mv ((w.alloc (.cells #[.int .i64 0, .string ⟨#[]⟩, .bool false, .slice none 0 0, .int .i64 0, .int .i64 0, .bool false, .slice none 0 0] 25)).alloc (.cells #[.string s, .int .i64 0, .int .i64 0] 44)) w3 (w.heap.size + 1) s r3) := hide hm3
      have z0 : w3.cell? ⟨w.heap.size, 0, none⟩ = some (.int .i64 0) := M3.out.cell (alloc_blk (cells_lit w _ _ 0 _ rfl)) (by simp)
      have z1 : w3.cell? ⟨w.heap.size, 1, none⟩ = some (.string ⟨#[]⟩) := M3.out.cell (alloc_blk (cells_lit w _ _ 1 _ rfl)) (by simp)
      have z2 : w3.cell? ⟨w.heap.size, 2, none⟩ = some (.bool false) := M3.out.cell (alloc_blk (cells_lit w _ _ 2 _ rfl)) (by simp)
      have z3 : w3.cell? ⟨w.heap.size, 3, none⟩ = some (.slice none 0 0) := M3.out.cell (alloc_blk (cells_lit w _ _ 3 _ rfl)) (by simp)
      have z4 : w3.cell? ⟨w.heap.size, 4, none⟩ = some (.int .i64 0) := M3.out.cell (alloc_blk (cells_lit w _ _ 4 _ rfl)) (by simp)
      have z5 : w3.cell? ⟨w.heap.size, 5, none⟩ = some (.int .i64 0) := M3.out.cell (alloc_blk (cells_lit w _ _ 5 _ rfl)) (by simp)
      have z6 : w3.cell? ⟨w.heap.size, 6, none⟩ = some (.bool false) := M3.out.cell (alloc_blk (cells_lit w _ _ 6 _ rfl)) (by simp)
      have z7 : w3.cell? ⟨w.heap.size, 7, none⟩ = some (.slice none 0 0) := M3.out.cell (alloc_blk (cells_lit w _ _ 7 _ rfl)) (by simp)
      have hf3 : ∀ o, w3.frozen? ⟨w.heap.size, o, none⟩ = false := fun o => (M3.out.frz (p := ⟨w.heap.size, o, none⟩) (by simp; omega) (by simp)).trans (by go_simp)
      have hs3 : w.heap.size < w3.heap.size := Nat.lt_of_lt_of_le (by simp; omega) M3.out.fr
      have HB3 := hide (mv_below (bl_alloc (bl_alloc (bl_refl w) _) _) M3.out (by simp))
      rw [show rt0.v = .agg #[.int .i64 0, .string ⟨#[]⟩, .bool false, .slice none 0 0, .int .i64 0, .int .i64 0, .bool false, .slice none 0 0] from rfl]
      clear hm3
      rcases hgp with rfl | rfl
      · go_wp2
        refine bodyPost_ret (v := .tuple #[.agg #[.int .i64 0, .string ⟨#[]⟩, .bool false, .slice none 0 0, .int .i64 0, .int .i64 0, .bool false, .slice none 0 0], .int .i64 8]) ?_ rfl ⟨rfl, bl_alloc (bl8 HB3.out (Nat.le_refl _) _ _ _ _ _ _ _ _ _ _ _ _ _ _ _ _) _⟩
        rw [results_cell2 rfl]
        go_simp
      · go_wp2
        refine bodyPost_ret (v := .tuple #[.agg #[.int .i64 0, .string ⟨#[]⟩, .bool false, .slice none 0 0, .int .i64 0, .int .i64 0, .bool false, .slice none 0 0], .int .i64 10]) ?_ rfl ⟨rfl, bl_alloc (bl8 HB3.out (Nat.le_refl _) _ _ _ _ _ _ _ _ _ _ _ _ _ _ _ _) _⟩
        rw [results_cell2 rfl]
        go_simp
    · obtain ⟨t, rfl, hm3, hrx, hfr, her⟩ := hp
      have M3 : Hid (Mv ((w.alloc (.cells #[.int .i64 0, .string ⟨#[]⟩, .bool false, .slice none 0 0, .int .i64 0, .int .i64 0, .bool false, .slice none 0 0] 25)).alloc (.cells #[.string s, .int .i64 0, .int .i64 0] 44)) w3 (w.heap.size + 1) s r3) := hide hm3
      have z0 : w3.cell? ⟨w.heap.size, 0, none⟩ = some (.int .i64 0) := M3.out.cell (alloc_blk (cells_lit w _ _ 0 _ rfl)) (by simp)
      have z1 : w3.cell? ⟨w.heap.size, 1, none⟩ = some (.string ⟨#[]⟩) := M3.out.cell (alloc_blk (cells_lit w _ _ 1 _ rfl)) (by simp)
      have z2 : w3.cell? ⟨w.heap.size, 2, none⟩ = some (.bool false) := M3.out.cell (alloc_blk (cells_lit w _ _ 2 _ rfl)) (by simp)
      have z3 : w3.cell? ⟨w.heap.size, 3, none⟩ = some (.slice none 0 0) := M3.out.cell (alloc_blk (cells_lit w _ _ 3 _ rfl)) (by simp)
      have z4 : w3.cell? ⟨w.heap.size, 4, none⟩ = some (.int .i64 0) := M3.out.cell (alloc_blk (cells_lit w _ _ 4 _ rfl)) (by simp)
      have z5 : w3.cell? ⟨w.heap.size, 5, none⟩ = some (.int .i64 0) := M3.out.cell (alloc_blk (cells_lit w _ _ 5 _ rfl)) (by simp)
      have z6 : w3.cell? ⟨w.heap.size, 6, none⟩ = some (.bool false) := M3.out.cell (alloc_blk (cells_lit w _ _ 6 _ rfl)) (by simp)
      have z7 : w3.cell? ⟨w.heap.size, 7, none⟩ = some (.slice none 0 0) := M3.out.cell (alloc_blk (cells_lit w _ _ 7 _ rfl)) (by simp)
      have hf3 : ∀ o, w3.frozen? ⟨w.heap.size, o, none⟩ = false := fun o => (M3.out.frz (p := ⟨w.heap.size, o, none⟩) (by simp; omega) (by simp)).trans (by go_simp)
      have hs3 : w.heap.size < w3.heap.size := Nat.lt_of_lt_of_le (by simp; omega) M3.out.fr
      obtain ⟨tA, tc, htrv⟩ := rwat_len hrx.rows
      obtain ⟨tB, td, htkv⟩ := ksat_len hrx.ks
      have HTV := hide (show t.v = .agg #[.int .i64 t.k, .string t.ch, .bool t.nt, .slice tA t.rows.length tc, .int .i64 t.mi, .int .i64 t.ma, .bool t.lz, .slice tB t.kids.length td] by unfold Rt.v Rt.cs; rw [htrv, htkv])
      have HCS := hide (show t.cs = [.int .i64 t.k, .string t.ch, .bool t.nt, .slice tA t.rows.length tc, .int .i64 t.mi, .int .i64 t.ma, .bool t.lz, .slice tB t.kids.length td] by unfold Rt.cs; rw [htrv, htkv])
      rw [HTV.out]
      have HRX := hide hrx
      have HFR := hide (hfr.mono (show w.heap.size + 1 ≤ ((w.alloc (.cells #[.int .i64 0, .string ⟨#[]⟩, .bool false, .slice none 0 0, .int .i64 0, .int .i64 0, .bool false, .slice none 0 0] 25)).alloc (.cells #[.string s, .int .i64 0, .int .i64 0] 44)).heap.size by simp))
      have HB3 := hide (mv_below (bl_alloc (bl_alloc (bl_refl w) _) _) M3.out (by simp))
      have HDN := hide (fun q (hq : r3.isEmpty = q) o => pos_done ((M3.out.pl (plg_new_n (w.alloc (.cells #[.int .i64 0, .string ⟨#[]⟩, .bool false, .slice none 0 0, .int .i64 0, .int .i64 0, .bool false, .slice none 0 0] 25)) s HLE.out _ (by simp)).pl).bl (bl_alloc (bl_refl _) o)) q hq)
      simp only [readE] at ho
      clear hm3 hrx hfr htrv htkv
      cases hre : r3.isEmpty
      · rw [hre] at ho
        rw [if_neg (by decide)] at ho
        subst ho
        have HD := hide (HDN.out false hre)
        clear hre HDN
        go_wp2_with fail
        refine (HD.out _).mono ?_
        rintro e w4 ⟨rfl, hb4⟩
        replace z0 := cell_later hb4 (alloc_blk (o := .cells #[.int .i64 t.k, .string t.ch, .bool t.nt, .slice tA t.rows.length tc, .int .i64 t.mi, .int .i64 t.ma, .bool t.lz, .slice tB t.kids.length td] 25) z0)
        replace z1 := cell_later hb4 (alloc_blk (o := .cells #[.int .i64 t.k, .string t.ch, .bool t.nt, .slice tA t.rows.length tc, .int .i64 t.mi, .int .i64 t.ma, .bool t.lz, .slice tB t.kids.length td] 25) z1)
        replace z2 := cell_later hb4 (alloc_blk (o := .cells #[.int .i64 t.k, .string t.ch, .bool t.nt, .slice tA t.rows.length tc, .int .i64 t.mi, .int .i64 t.ma, .bool t.lz, .slice tB t.kids.length td] 25) z2)
        replace z3 := cell_later hb4 (alloc_blk (o := .cells #[.int .i64 t.k, .string t.ch, .bool t.nt, .slice tA t.rows.length tc, .int .i64 t.mi, .int .i64 t.ma, .bool t.lz, .slice tB t.kids.length td] 25) z3)
        replace z4 := cell_later hb4 (alloc_blk (o := .cells #[.int .i64 t.k, .string t.ch, .bool t.nt, .slice tA t.rows.length tc, .int .i64 t.mi, .int .i64 t.ma, .bool t.lz, .slice tB t.kids.length td] 25) z4)
        replace z5 := cell_later hb4 (alloc_blk (o := .cells #[.int .i64 t.k, .string t.ch, .bool t.nt, .slice tA t.rows.length tc, .int .i64 t.mi, .int .i64 t.ma, .bool t.lz, .slice tB t.kids.length td] 25) z5)
        replace z6 := cell_later hb4 (alloc_blk (o := .cells #[.int .i64 t.k, .string t.ch, .bool t.nt, .slice tA t.rows.length tc, .int .i64 t.mi, .int .i64 t.ma, .bool t.lz, .slice tB t.kids.length td] 25) z6)
        replace z7 := cell_later hb4 (alloc_blk (o := .cells #[.int .i64 t.k, .string t.ch, .bool t.nt, .slice tA t.rows.length tc, .int .i64 t.mi, .int .i64 t.ma, .bool t.lz, .slice tB t.kids.length td] 25) z7)
        replace hf3 : ∀ o, w4.frozen? ⟨w.heap.size, o, none⟩ = false := fun o => (hb4.frozen (p := ⟨w.heap.size, o, none⟩) (by simp; omega)).trans (by go_simp)
        have hs4 : w.heap.size < w4.heap.size := Nat.lt_of_lt_of_le hs3 (Nat.le_trans (by simp) hb4.size)
        have HB4 := hide (bl_trans (bl_alloc HB3.out _) hb4)
        clear hb4 her
        go_wp2
        refine bodyPost_ret (v := .tuple #[.agg #[.int .i64 0, .string ⟨#[]⟩, .bool false, .slice none 0 0, .int .i64 0, .int .i64 0, .bool false, .slice none 0 0], .int .i64 10]) ?_ rfl ⟨rfl, bl8 HB4.out (Nat.le_refl _) _ _ _ _ _ _ _ _ _ _ _ _ _ _ _ _⟩
        rw [results_cell2 rfl]
        go_simp
      · rw [hre] at ho
        rw [if_pos rfl] at ho
        subst ho
        have HD := hide (HDN.out true hre)
        clear hre HDN
        go_wp2_with fail
        refine (HD.out _).mono ?_
        rintro e w4 ⟨rfl, hb4⟩
        replace z0 := cell_later hb4 (alloc_blk (o := .cells #[.int .i64 t.k, .string t.ch, .bool t.nt, .slice tA t.rows.length tc, .int .i64 t.mi, .int .i64 t.ma, .bool t.lz, .slice tB t.kids.length td] 25) z0)
        replace z1 := cell_later hb4 (alloc_blk (o := .cells #[.int .i64 t.k, .string t.ch, .bool t.nt, .slice tA t.rows.length tc, .int .i64 t.mi, .int .i64 t.ma, .bool t.lz, .slice tB t.kids.length td] 25) z1)
        replace z2 := cell_later hb4 (alloc_blk (o := .cells #[.int .i64 t.k, .string t.ch, .bool t.nt, .slice tA t.rows.length tc, .int .i64 t.mi, .int .i64 t.ma, .bool t.lz, .slice tB t.kids.length td] 25) z2)
        replace z3 := cell_later hb4 (alloc_blk (o := .cells #[.int .i64 t.k, .string t.ch, .bool t.nt, .slice tA t.rows.length tc, .int .i64 t.mi, .int .i64 t.ma, .bool t.lz, .slice tB t.kids.length td] 25) z3)
        replace z4 := cell_later hb4 (alloc_blk (o := .cells #[.int .i64 t.k, .string t.ch, .bool t.nt, .slice tA t.rows.length tc, .int .i64 t.mi, .int .i64 t.ma, .bool t.lz, .slice tB t.kids.length td] 25) z4)
        replace z5 := cell_later hb4 (alloc_blk (o := .cells #[.int .i64 t.k, .string t.ch, .bool t.nt, .slice tA t.rows.length tc, .int .i64 t.mi, .int .i64 t.ma, .bool t.lz, .slice tB t.kids.length td] 25) z5)
        replace z6 := cell_later hb4 (alloc_blk (o := .cells #[.int .i64 t.k, .string t.ch, .bool t.nt, .slice tA t.rows.length tc, .int .i64 t.mi, .int .i64 t.ma, .bool t.lz, .slice tB t.kids.length td] 25) z6)
        replace z7 := cell_later hb4 (alloc_blk (o := .cells #[.int .i64 t.k, .string t.ch, .bool t.nt, .slice tA t.rows.length tc, .int .i64 t.mi, .int .i64 t.ma, .bool t.lz, .slice tB t.kids.length td] 25) z7)
        replace hf3 : ∀ o, w4.frozen? ⟨w.heap.size, o, none⟩ = false := fun o => (hb4.frozen (p := ⟨w.heap.size, o, none⟩) (by simp; omega)).trans (by go_simp)
        have hs4 : w.heap.size < w4.heap.size := Nat.lt_of_lt_of_le hs3 (Nat.le_trans (by simp) hb4.size)
        have y0 : w4.cell? ⟨w3.heap.size, 0, none⟩ = some (.int .i64 t.k) := cell_later hb4 (ks_alloc (W := w3) (T := 25) (cs := [.int .i64 t.k, .string t.ch, .bool t.nt, .slice tA t.rows.length tc, .int .i64 t.mi, .int .i64 t.ma, .bool t.lz, .slice tB t.kids.length td]) rfl 0 _ rfl)
        have y1 : w4.cell? ⟨w3.heap.size, 1, none⟩ = some (.string t.ch) := cell_later hb4 (ks_alloc (W := w3) (T := 25) (cs := [.int .i64 t.k, .string t.ch, .bool t.nt, .slice tA t.rows.length tc, .int .i64 t.mi, .int .i64 t.ma, .bool t.lz, .slice tB t.kids.length td]) rfl 1 _ rfl)
        have y2 : w4.cell? ⟨w3.heap.size, 2, none⟩ = some (.bool t.nt) := cell_later hb4 (ks_alloc (W := w3) (T := 25) (cs := [.int .i64 t.k, .string t.ch, .bool t.nt, .slice tA t.rows.length tc, .int .i64 t.mi, .int .i64 t.ma, .bool t.lz, .slice tB t.kids.length td]) rfl 2 _ rfl)
        have y3 : w4.cell? ⟨w3.heap.size, 3, none⟩ = some (.slice tA t.rows.length tc) := cell_later hb4 (ks_alloc (W := w3) (T := 25) (cs := [.int .i64 t.k, .string t.ch, .bool t.nt, .slice tA t.rows.length tc, .int .i64 t.mi, .int .i64 t.ma, .bool t.lz, .slice tB t.kids.length td]) rfl 3 _ rfl)
        have y4 : w4.cell? ⟨w3.heap.size, 4, none⟩ = some (.int .i64 t.mi) := cell_later hb4 (ks_alloc (W := w3) (T := 25) (cs := [.int .i64 t.k, .string t.ch, .bool t.nt, .slice tA t.rows.length tc, .int .i64 t.mi, .int .i64 t.ma, .bool t.lz, .slice tB t.kids.length td]) rfl 4 _ rfl)
        have y5 : w4.cell? ⟨w3.heap.size, 5, none⟩ = some (.int .i64 t.ma) := cell_later hb4 (ks_alloc (W := w3) (T := 25) (cs := [.int .i64 t.k, .string t.ch, .bool t.nt, .slice tA t.rows.length tc, .int .i64 t.mi, .int .i64 t.ma, .bool t.lz, .slice tB t.kids.length td]) rfl 5 _ rfl)
        have y6 : w4.cell? ⟨w3.heap.size, 6, none⟩ = some (.bool t.lz) := cell_later hb4 (ks_alloc (W := w3) (T := 25) (cs := [.int .i64 t.k, .string t.ch, .bool t.nt, .slice tA t.rows.length tc, .int .i64 t.mi, .int .i64 t.ma, .bool t.lz, .slice tB t.kids.length td]) rfl 6 _ rfl)
        have y7 : w4.cell? ⟨w3.heap.size, 7, none⟩ = some (.slice tB t.kids.length td) := cell_later hb4 (ks_alloc (W := w3) (T := 25) (cs := [.int .i64 t.k, .string t.ch, .bool t.nt, .slice tA t.rows.length tc, .int .i64 t.mi, .int .i64 t.ma, .bool t.lz, .slice tB t.kids.length td]) rfl 7 _ rfl)
        have HB4 := hide (bl_trans (bl_alloc HB3.out _) hb4)
        have HRX4 := hide (rx_below (rx_below HRX.out (bl_alloc (bl_refl _) _)) hb4)
        have HER := hide her
        clear hb4 her
        go_wp2
        refine bodyPost_ret (v := .tuple #[.agg #[.int .i64 t.k, .string t.ch, .bool t.nt, .slice tA t.rows.length tc, .int .i64 t.mi, .int .i64 t.ma, .bool t.lz, .slice tB t.kids.length td], .int .i64 0]) ?_ rfl ⟨t, by rw [HTV.out], bl8 HB4.out (Nat.le_refl _) _ _ _ _ _ _ _ _ _ _ _ _ _ _ _ _, rx_kept HRX4.out HFR.out (kept8 _ (Nat.lt_succ_self _) _ _ _ _ _ _ _ _ _ _ _ _ _ _ _ _), HFR.out.mono (Nat.le_succ _), HER.out⟩
        rw [results_cell2 rfl]
        go_simp
  · have hp : 0 < s.size := Nat.pos_of_ne_zero he
    have hl := HL.out
    have h2 := HH2.out
    have hc : contB (s[0]'hp) = false := by
      have e : s.data.toList = s[0] :: s.data.toList.tail := by
        cases hd : s.data.toList with
        | nil => rw [hd] at hl; simp at hl; omega
        | cons y r =>
          have : s[0] = y := by
            have h3 : s.data.toList[0]? = some y := by rw [hd]; rfl
            have h4 : s.data.toList[0]? = some s[0] := by
              rw [List.getElem?_eq_getElem (by omega)]; rfl
            rw [h3] at h4; exact (Option.some.inj h4).symm
          rw [this]; rfl
      rw [e] at h2; exact h2
    have k0 : s.toList.isEmpty = false := by
      rw [Go.ByteArray.toList_eq]
      cases hd : s.data.toList with
      | nil => rw [hd] at hl; simp at hl; omega
      | cons y r => rfl
    have i0 : (0 : Int) < (s.size : Int) := by omega
    have HC := hide (fun W => contc_any (s[0]'hp) _ false W rfl hc)
    clear h2 hc he hl
    go_enter Tryz.func4, Tryz.ntmps4
    go_wp2_with fail
    refine (HC.out _).mono ?_
    rintro e w1 ⟨rfl, rfl⟩
    go_wp2_with fail
    refine (HPT.out (w.alloc (.cells #[.int .i64 0, .string ⟨#[]⟩, .bool false, .slice none 0 0, .int .i64 0, .int .i64 0, .bool false, .slice none 0 0] 25)) _ (by simp)).mono ?_
    intro e w3 hp
    have ho := HO.out
    have hgp := HGP.out
    clear HO HGP
    rcases p with _ | n | ⟨x, r3⟩
    · exact hp.elim
    · obtain ⟨rfl, r3, hm3⟩ := hp
      simp only [readE] at ho
      subst ho
      have M3 : Hid (Mv ((w.alloc (.cells #[.int .i64 0, .string ⟨#[]⟩, .bool false, .slice none 0 0, .int .i64 0, .int .i64 0, .bool false, .slice none 0 0] 25)).alloc (.cells #[.string s, .int .i64 0, .int .i64 0] 44)) w3 (w.heap.size + 1) s r3) := hide hm3
      have z0 : w3.cell? ⟨w.heap.size, 0, none⟩ = some (.int .i64 0) := M3.out.cell (alloc_blk (cells_lit w _ _ 0 _ rfl)) (by simp)
      have z1 : w3.cell? ⟨w.heap.size, 1, none⟩ = some (.string ⟨#[]⟩) := M3.out.cell (alloc_blk (cells_lit w _ _ 1 _ rfl)) (by simp)
      have z2 : w3.cell? ⟨w.heap.size, 2, none⟩ = some (.bool false) := M3.out.cell (alloc_blk (cells_lit w _ _ 2 _ rfl)) (by simp)
      have z3 : w3.cell? ⟨w.heap.size, 3, none⟩ = some (.slice none 0 0) := M3.out.cell (alloc_blk (cells_lit w _ _ 3 _ rfl)) (by simp)
      have z4 : w3.cell? ⟨w.heap.size, 4, none⟩ = some (.int .i64 0) := M3.out.cell (alloc_blk (cells_lit w _ _ 4 _ rfl)) (by simp)
      have z5 : w3.cell? ⟨w.heap.size, 5, none⟩ = some (.int .i64 0) := M3.out.cell (alloc_blk (cells_lit w _ _ 5 _ rfl)) (by simp)
      have z6 : w3.cell? ⟨w.heap.size, 6, none⟩ = some (.bool false) := M3.out.cell (alloc_blk (cells_lit w _ _ 6 _ rfl)) (by simp)
      have z7 : w3.cell? ⟨w.heap.size, 7, none⟩ = some (.slice none 0 0) := M3.out.cell (alloc_blk (cells_lit w _ _ 7 _ rfl)) (by simp)
      have hf3 : ∀ o, w3.frozen? ⟨w.heap.size, o, none⟩ = false := fun o => (M3.out.frz (p := ⟨w.heap.size, o, none⟩) (by simp; omega) (by simp)).trans (by go_simp)
      have hs3 : w.heap.size < w3.heap.size := Nat.lt_of_lt_of_le (by simp; omega) M3.out.fr
      have HB3 := hide (mv_below (bl_alloc (bl_alloc (bl_refl w) _) _) M3.out (by simp))
      rw [show rt0.v = .agg #[.int .i64 0, .string ⟨#[]⟩, .bool false, .slice none 0 0, .int .i64 0, .int .i64 0, .bool false, .slice none 0 0] from rfl]
      clear hm3
      rcases hgp with rfl | rfl
      · go_wp2
        refine bodyPost_ret (v := .tuple #[.agg #[.int .i64 0, .string ⟨#[]⟩, .bool false, .slice none 0 0, .int .i64 0, .int .i64 0, .bool false, .slice none 0 0], .int .i64 8]) ?_ rfl ⟨rfl, bl_alloc (bl8 HB3.out (Nat.le_refl _) _ _ _ _ _ _ _ _ _ _ _ _ _ _ _ _) _⟩
        rw [results_cell2 rfl]
        go_simp
      · go_wp2
        refine bodyPost_ret (v := .tuple #[.agg #[.int .i64 0, .string ⟨#[]⟩, .bool false, .slice none 0 0, .int .i64 0, .int .i64 0, .bool false, .slice none 0 0], .int .i64 10]) ?_ rfl ⟨rfl, bl_alloc (bl8 HB3.out (Nat.le_refl _) _ _ _ _ _ _ _ _ _ _ _ _ _ _ _ _) _⟩
        rw [results_cell2 rfl]
        go_simp
    · obtain ⟨t, rfl, hm3, hrx, hfr, her⟩ := hp
      have M3 : Hid (Mv ((w.alloc (.cells #[.int .i64 0, .string ⟨#[]⟩, .bool false, .slice none 0 0, .int .i64 0, .int .i64 0, .bool false, .slice none 0 0] 25)).alloc (.cells #[.string s, .int .i64 0, .int .i64 0] 44)) w3 (w.heap.size + 1) s r3) := hide hm3
      have z0 : w3.cell? ⟨w.heap.size, 0, none⟩ = some (.int .i64 0) := M3.out.cell (alloc_blk (cells_lit w _ _ 0 _ rfl)) (by simp)
      have z1 : w3.cell? ⟨w.heap.size, 1, none⟩ = some (.string ⟨#[]⟩) := M3.out.cell (alloc_blk (cells_lit w _ _ 1 _ rfl)) (by simp)
      have z2 : w3.cell? ⟨w.heap.size, 2, none⟩ = some (.bool false) := M3.out.cell (alloc_blk (cells_lit w _ _ 2 _ rfl)) (by simp)
      have z3 : w3.cell? ⟨w.heap.size, 3, none⟩ = some (.slice none 0 0) := M3.out.cell (alloc_blk (cells_lit w _ _ 3 _ rfl)) (by simp)
      have z4 : w3.cell? ⟨w.heap.size, 4, none⟩ = some (.int .i64 0) := M3.out.cell (alloc_blk (cells_lit w _ _ 4 _ rfl)) (by simp)
      have z5 : w3.cell? ⟨w.heap.size, 5, none⟩ = some (.int .i64 0) := M3.out.cell (alloc_blk (cells_lit w _ _ 5 _ rfl)) (by simp)
      have z6 : w3.cell? ⟨w.heap.size, 6, none⟩ = some (.bool false) := M3.out.cell (alloc_blk (cells_lit w _ _ 6 _ rfl)) (by simp)
      have z7 : w3.cell? ⟨w.heap.size, 7, none⟩ = some (.slice none 0 0) := M3.out.cell (alloc_blk (cells_lit w _ _ 7 _ rfl)) (by simp)
      have hf3 : ∀ o, w3.frozen? ⟨w.heap.size, o, none⟩ = false := fun o => (M3.out.frz (p := ⟨w.heap.size, o, none⟩) (by simp; omega) (by simp)).trans (by go_simp)
      have hs3 : w.heap.size < w3.heap.size := Nat.lt_of_lt_of_le (by simp; omega) M3.out.fr
      obtain ⟨tA, tc, htrv⟩ := rwat_len hrx.rows
      obtain ⟨tB, td, htkv⟩ := ksat_len hrx.ks
      have HTV := hide (show t.v = .agg #[.int .i64 t.k, .string t.ch, .bool t.nt, .slice tA t.rows.length tc, .int .i64 t.mi, .int .i64 t.ma, .bool t.lz, .slice tB t.kids.length td] by unfold Rt.v Rt.cs; rw [htrv, htkv])
      have HCS := hide (show t.cs = [.int .i64 t.k, .string t.ch, .bool t.nt, .slice tA t.rows.length tc, .int .i64 t.mi, .int .i64 t.ma, .bool t.lz, .slice tB t.kids.length td] by unfold Rt.cs; rw [htrv, htkv])
      rw [HTV.out]
      have HRX := hide hrx
      have HFR := hide (hfr.mono (show w.heap.size + 1 ≤ ((w.alloc (.cells #[.int .i64 0, .string ⟨#[]⟩, .bool false, .slice none 0 0, .int .i64 0, .int .i64 0, .bool false, .slice none 0 0] 25)).alloc (.cells #[.string s, .int .i64 0, .int .i64 0] 44)).heap.size by simp))
      have HB3 := hide (mv_below (bl_alloc (bl_alloc (bl_refl w) _) _) M3.out (by simp))
      have HDN := hide (fun q (hq : r3.isEmpty = q) o => pos_done ((M3.out.pl (plg_new_n (w.alloc (.cells #[.int .i64 0, .string ⟨#[]⟩, .bool false, .slice none 0 0, .int .i64 0, .int .i64 0, .bool false, .slice none 0 0] 25)) s HLE.out _ (by simp)).pl).bl (bl_alloc (bl_refl _) o)) q hq)
      simp only [readE] at ho
      clear hm3 hrx hfr htrv htkv
      cases hre : r3.isEmpty
      · rw [hre] at ho
        rw [if_neg (by decide)] at ho
        subst ho
        have HD := hide (HDN.out false hre)
        clear hre HDN
        go_wp2_with fail
        refine (HD.out _).mono ?_
        rintro e w4 ⟨rfl, hb4⟩
        replace z0 := cell_later hb4 (alloc_blk (o := .cells #[.int .i64 t.k, .string t.ch, .bool t.nt, .slice tA t.rows.length tc, .int .i64 t.mi, .int .i64 t.ma, .bool t.lz, .slice tB t.kids.length td] 25) z0)
        replace z1 := cell_later hb4 (alloc_blk (o := .cells #[.int .i64 t.k, .string t.ch, .bool t.nt, .slice tA t.rows.length tc, .int .i64 t.mi, .int .i64 t.ma, .bool t.lz, .slice tB t.kids.length td] 25) z1)
        replace z2 := cell_later hb4 (alloc_blk (o := .cells #[.int .i64 t.k, .string t.ch, .bool t.nt, .slice tA t.rows.length tc, .int .i64 t.mi, .int .i64 t.ma, .bool t.lz, .slice tB t.kids.length td] 25) z2)
        replace z3 := cell_later hb4 (alloc_blk (o := .cells #[.int .i64 t.k, .string t.ch, .bool t.nt, .slice tA t.rows.length tc, .int .i64 t.mi, .int .i64 t.ma, .bool t.lz, .slice tB t.kids.length td] 25) z3)
        replace z4 := cell_later hb4 (alloc_blk (o := .cells #[.int .i64 t.k, .string t.ch, .bool t.nt, .slice tA t.rows.length tc, .int .i64 t.mi, .int .i64 t.ma, .bool t.lz, .slice tB t.kids.length td] 25) z4)
        replace z5 := cell_later hb4 (alloc_blk (o := .cells #[.int .i64 t.k, .string t.ch, .bool t.nt, .slice tA t.rows.length tc, .int .i64 t.mi, .int .i64 t.ma, .bool t.lz, .slice tB t.kids.length td] 25) z5)
        replace z6 := cell_later hb4 (alloc_blk (o := .cells #[.int .i64 t.k, .string t.ch, .bool t.nt, .slice tA t.rows.length tc, .int .i64 t.mi, .int .i64 t.ma, .bool t.lz, .slice tB t.kids.length td] 25) z6)
        replace z7 := cell_later hb4 (alloc_blk (o := .cells #[.int .i64 t.k, .string t.ch, .bool t.nt, .slice tA t.rows.length tc, .int .i64 t.mi, .int .i64 t.ma, .bool t.lz, .slice tB t.kids.length td] 25) z7)
        replace hf3 : ∀ o, w4.frozen? ⟨w.heap.size, o, none⟩ = false := fun o => (hb4.frozen (p := ⟨w.heap.size, o, none⟩) (by simp; omega)).trans (by go_simp)
        have hs4 : w.heap.size < w4.heap.size := Nat.lt_of_lt_of_le hs3 (Nat.le_trans (by simp) hb4.size)
        have HB4 := hide (bl_trans (bl_alloc HB3.out _) hb4)
        clear hb4 her
        go_wp2
        refine bodyPost_ret (v := .tuple #[.agg #[.int .i64 0, .string ⟨#[]⟩, .bool false, .slice none 0 0, .int .i64 0, .int .i64 0, .bool false, .slice none 0 0], .int .i64 10]) ?_ rfl ⟨rfl, bl8 HB4.out (Nat.le_refl _) _ _ _ _ _ _ _ _ _ _ _ _ _ _ _ _⟩
        rw [results_cell2 rfl]
        go_simp
      · rw [hre] at ho
        rw [if_pos rfl] at ho
        subst ho
        have HD := hide (HDN.out true hre)
        clear hre HDN
        go_wp2_with fail
        refine (HD.out _).mono ?_
        rintro e w4 ⟨rfl, hb4⟩
        replace z0 := cell_later hb4 (alloc_blk (o := .cells #[.int .i64 t.k, .string t.ch, .bool t.nt, .slice tA t.rows.length tc, .int .i64 t.mi, .int .i64 t.ma, .bool t.lz, .slice tB t.kids.length td] 25) z0)
        replace z1 := cell_later hb4 (alloc_blk (o := .cells #[.int .i64 t.k, .string t.ch, .bool t.nt, .slice tA t.rows.length tc, .int .i64 t.mi, .int .i64 t.ma, .bool t.lz, .slice tB t.kids.length td] 25) z1)
        replace z2 := cell_later hb4 (alloc_blk (o := .cells #[.int .i64 t.k, .string t.ch, .bool t.nt, .slice tA t.rows.length tc, .int .i64 t.mi, .int .i64 t.ma, .bool t.lz, .slice tB t.kids.length td] 25) z2)
        replace z3 := cell_later hb4 (alloc_blk (o := .cells #[.int .i64 t.k, .string t.ch, .bool t.nt, .slice tA t.rows.length tc, .int .i64 t.mi, .int .i64 t.ma, .bool t.lz, .slice tB t.kids.length td] 25) z3)
        replace z4 := cell_later hb4 (alloc_blk (o := .cells #[.int .i64 t.k, .string t.ch, .bool t.nt, .slice tA t.rows.length tc, .int .i64 t.mi, .int .i64 t.ma, .bool t.lz, .slice tB t.kids.length td] 25) z4)
        replace z5 := cell_later hb4 (alloc_blk (o := .cells #[.int .i64 t.k, .string t.ch, .bool t.nt, .slice tA t.rows.length tc, .int .i64 t.mi, .int .i64 t.ma, .bool t.lz, .slice tB t.kids.length td] 25) z5)
        replace z6 := cell_later hb4 (alloc_blk (o := .cells #[.int .i64 t.k, .string t.ch, .bool t.nt, .slice tA t.rows.length tc, .int .i64 t.mi, .int .i64 t.ma, .bool t.lz, .slice tB t.kids.length td] 25) z6)
        replace z7 := cell_later hb4 (alloc_blk (o := .cells #[.int .i64 t.k, .string t.ch, .bool t.nt, .slice tA t.rows.length tc, .int .i64 t.mi, .int .i64 t.ma, .bool t.lz, .slice tB t.kids.length td] 25) z7)
        replace hf3 : ∀ o, w4.frozen? ⟨w.heap.size, o, none⟩ = false := fun o => (hb4.frozen (p := ⟨w.heap.size, o, none⟩) (by simp; omega)).trans (by go_simp)
        have hs4 : w.heap.size < w4.heap.size := Nat.lt_of_lt_of_le hs3 (Nat.le_trans (by simp) hb4.size)
        have y0 : w4.cell? ⟨w3.heap.size, 0, none⟩ = some (.int .i64 t.k) := cell_later hb4 (ks_alloc (W := w3) (T := 25) (cs := [.int .i64 t.k, .string t.ch, .bool t.nt, .slice tA t.rows.length tc, .int .i64 t.mi, .int .i64 t.ma, .bool t.lz, .slice tB t.kids.length td]) rfl 0 _ rfl)
        have y1 : w4.cell? ⟨w3.heap.size, 1, none⟩ = some (.string t.ch) := cell_later hb4 (ks_alloc (W := w3) (T := 25) (cs := [.int .i64 t.k, .string t.ch, .bool t.nt, .slice tA t.rows.length tc, .int .i64 t.mi, .int .i64 t.ma, .bool t.lz, .slice tB t.kids.length td]) rfl 1 _ rfl)
        have y2 : w4.cell? ⟨w3.heap.size, 2, none⟩ = some (.bool t.nt) := cell_later hb4 (ks_alloc (W := w3) (T := 25) (cs := [.int .i64 t.k, .string t.ch, .bool t.nt, .slice tA t.rows.length tc, .int .i64 t.mi, .int .i64 t.ma, .bool t.lz, .slice tB t.kids.length td]) rfl 2 _ rfl)
        have y3 : w4.cell? ⟨w3.heap.size, 3, none⟩ = some (.slice tA t.rows.length tc) := cell_later hb4 (ks_alloc (W := w3) (T := 25) (cs := [.int .i64 t.k, .string t.ch, .bool t.nt, .slice tA t.rows.length tc, .int .i64 t.mi, .int .i64 t.ma, .bool t.lz, .slice tB t.kids.length td]) rfl 3 _ rfl)
        have y4 : w4.cell? ⟨w3.heap.size, 4, none⟩ = some (.int .i64 t.mi) := cell_later hb4 (ks_alloc (W := w3) (T := 25) (cs := [.int .i64 t.k, .string t.ch, .bool t.nt, .slice tA t.rows.length tc, .int .i64 t.mi, .int .i64 t.ma, .bool t.lz, .slice tB t.kids.length td]) rfl 4 _ rfl)
        have y5 : w4.cell? ⟨w3.heap.size, 5, none⟩ = some (.int .i64 t.ma) := cell_later hb4 (ks_alloc (W := w3) (T := 25) (cs := [.int .i64 t.k, .string t.ch, .bool t.nt, .slice tA t.rows.length tc, .int .i64 t.mi, .int .i64 t.ma, .bool t.lz, .slice tB t.kids.length td]) rfl 5 _ rfl)
        have y6 : w4.cell? ⟨w3.heap.size, 6, none⟩ = some (.bool t.lz) := cell_later hb4 (ks_alloc (W := w3) (T := 25) (cs := [.int .i64 t.k, .string t.ch, .bool t.nt, .slice tA t.rows.length tc, .int .i64 t.mi, .int .i64 t.ma, .bool t.lz, .slice tB t.kids.length td]) rfl 6 _ rfl)
        have y7 : w4.cell? ⟨w3.heap.size, 7, none⟩ = some (.slice tB t.kids.length td) := cell_later hb4 (ks_alloc (W := w3) (T := 25) (cs := [.int .i64 t.k, .string t.ch, .bool t.nt, .slice tA t.rows.length tc, .int .i64 t.mi, .int .i64 t.ma, .bool t.lz, .slice tB t.kids.length td]) rfl 7 _ rfl)
        have HB4 := hide (bl_trans (bl_alloc HB3.out _) hb4)
        have HRX4 := hide (rx_below (rx_below HRX.out (bl_alloc (bl_refl _) _)) hb4)
        have HER := hide her
        clear hb4 her
        go_wp2
        refine bodyPost_ret (v := .tuple #[.agg #[.int .i64 t.k, .string t.ch, .bool t.nt, .slice tA t.rows.length tc, .int .i64 t.mi, .int .i64 t.ma, .bool t.lz, .slice tB t.kids.length td], .int .i64 0]) ?_ rfl ⟨t, by rw [HTV.out], bl8 HB4.out (Nat.le_refl _) _ _ _ _ _ _ _ _ _ _ _ _ _ _ _ _, rx_kept HRX4.out HFR.out (kept8 _ (Nat.lt_succ_self _) _ _ _ _ _ _ _ _ _ _ _ _ _ _ _ _), HFR.out.mono (Nat.le_succ _), HER.out⟩
        rw [results_cell2 rfl]
        go_simp
end
section
open SetM
set_option linter.unusedVariables false
theorem contH_drop (l : List UInt8) : contH (l.drop (l.takeWhile contB).length) = false := by
  induction l with
  | nil => rfl
  | cons a l ih =>
    rw [List.takeWhile_cons]
    cases h : contB a
    · simp [contH, h]
    · simpa using ih
theorem contH_tl (l : List UInt8) : contH (tlC l) = false := by
  cases l with
  | nil => rfl
  | cons a l =>
    show contH ((a :: l).drop (1 + (l.takeWhile contB).length)) = false
    rw [Nat.add_comm, List.drop_succ_cons]
    exact contH_drop l
theorem tk_take (l : List UInt8) : (l.take (l.takeWhile contB).length).takeWhile contB = l.takeWhile contB := by
  induction l with
  | nil => rfl
  | cons a l ih =>
    rw [List.takeWhile_cons]
    cases h : contB a
    · simp
    · simp only [if_true, List.length_cons, List.take_succ_cons, List.takeWhile_cons, h]
      rw [ih]
theorem firstN_hd (l : List UInt8) : firstN (hdC l) = (hdC l).length := by
  rw [hdC_len]
  unfold hdC
  cases l with
  | nil => rfl
  | cons a l =>
    show firstN ((a :: l).take (1 + (l.takeWhile contB).length)) = 1 + (l.takeWhile contB).length
    rw [Nat.add_comm, List.take_succ_cons]
    show 1 + ((l.take (l.takeWhile contB).length).takeWhile contB).length = _
    rw [tk_take, Nat.add_comm]
theorem proper_hd {l : List UInt8} (h : contH l = false) (hl : l ≠ []) : properB (hdC l) = true := by
  cases l with
  | nil => exact absurd rfl hl
  | cons a l =>
    have e : hdC (a :: l) = a :: l.take (l.takeWhile contB).length := by
      show (a :: l).take (1 + (l.takeWhile contB).length) = _
      rw [Nat.add_comm, List.take_succ_cons]
    refine proper_yes _ (by rw [e]; simp) ?_ (firstN_hd _)
    simp only [e, List.getElem_cons_zero]
    exact h
theorem mayF_normR {l : List Rw} (h : Norm l) (hb : ∀ s ∈ l, rowB s = true) : mayF l = true := by
  refine (mayF_at l).2 (fun i hi => ⟨hb _ (List.getElem_mem hi), fun j hj => ?_⟩)
  subst hj
  exact (List.pairwise_iff_getElem.1 h.apart) j (j + 1) _ hi (Nat.lt_succ_self _)
theorem mayF_cls (l : List Rw) : mayF (uniF (sortS (okU l))) = true := by
  have hok : ∀ s ∈ sortS (okU l), rowB s = true := fun s hs => by
    have := (sortS_perm (okU l)).mem_iff.1 hs
    exact (List.mem_filter.1 this).2
  have hok2 : ∀ s ∈ sortS (okU l), okR s := fun s hs => by
    have := hok s hs
    unfold rowB at this
    simp only [Bool.and_eq_true, Bool.not_eq_true'] at this
    exact this.2
  have hn := uni_norm _ hok2 (sortS_sorted _)
  refine mayF_normR hn (fun s hs => ?_)
  have hp := uni_all _ hok2 (sortS_sorted _) (fun c => properB c.data.toList = true) (fun s hs => by
    have := hok s hs
    unfold rowB at this
    simp only [Bool.and_eq_true] at this
    exact this.1) s hs
  have hv := hn.valid s hs
  unfold okR at hv
  unfold rowB
  rw [hp.1, hp.2, hv]; rfl
structure Va (g e : Nat) (l : List UInt8) (x : Rt) (r : List UInt8) : Prop where
  ok : okM x = true
  ct : contH r = false
  pm : pM x + 2 * r.length ≤ 2 * l.length + e
  gm : gM x + r.count 40 ≤ l.count 40
  dm : dM x ≤ g
  pm2 : 2 * pM x + 3 * r.length ≤ 3 * l.length + 4 * e
theorem cnt_tl (l : List UInt8) : (tlC l).count 40 ≤ l.count 40 := (List.drop_sublist _ _).count_le _
theorem cnt_hd {l : List UInt8} (h : (hdC l == [40]) = true) : (tlC l).count 40 + 1 = l.count 40 := by
  have h1 := beq_iff_eq.1 h
  have h2 := hd_tl l
  have : l.count 40 = (hdC l).count 40 + (tlC l).count 40 := by rw [← List.count_append, h2]
  rw [this, h1]; simp; omega
theorem okM_leaf {t : Rt} (h1 : mfB t.k t.ch t.nt t.rows t.mi t.ma t.lz = true) (h2 : mkB t.k t.kids = true) (h3 : t.kids = []) : okM t = true := by
  rw [okM_eq, h1, h2, h3]; rfl
theorem leaf_va {k : Int} {ch : ByteArray} {nt : Bool} {R : List Rw} {l r : List UInt8} (g : Nat) (hk : k = 2 ∨ k = 3 ∨ k = 4 ∨ k = 8 ∨ k = 9 ∨ k = 10 ∨ k = 11) (hm : mfB k ch nt R 0 0 false = true) (hr : r.length < l.length) (hc : contH r = false) (hg : r.count 40 ≤ l.count 40) :
    Va g 0 l (.mk k ch nt (.slice none 0 0) R 0 0 false (.slice none 0 0) []) r := by
  refine ⟨okM_leaf hm ?_ rfl, hc, ?_, ?_, ?_, ?_⟩
  · show mkB k [] = true
    unfold mkB
    rcases hk with rfl | rfl | rfl | rfl | rfl | rfl | rfl <;> decide
  · rw [pM_eq]; show 1 + 0 + _ ≤ _; omega
  · rw [gM_eq]
    show (if k = 5 then 1 else 0) + 0 + _ ≤ _
    rw [if_neg (by rcases hk with rfl | rfl | rfl | rfl | rfl | rfl | rfl <;> decide)]; omega
  · rw [dM_eq]
    show 0 + (if k = 5 ∨ k = 6 then 1 else 0) ≤ _
    rw [if_neg (by rcases hk with rfl | rfl | rfl | rfl | rfl | rfl | rfl <;> decide)]; omega
  · rw [pM_eq]; show 2 * (1 + 0) + _ ≤ _; omega
theorem mf_plain {k : Int} (h : k = 0 ∨ k = 1 ∨ k = 3 ∨ k = 5 ∨ k = 6 ∨ k = 8 ∨ k = 9 ∨ k = 10 ∨ k = 11) : mfB k ⟨#[]⟩ false [] 0 0 false = true := by
  rcases h with rfl | rfl | rfl | rfl | rfl | rfl | rfl | rfl | rfl <;> decide
theorem mf_char {c : ByteArray} (h : properB c.data.toList = true) : mfB 2 c false [] 0 0 false = true := by
  unfold mfB; rw [if_pos rfl, h]; decide
theorem mf_set {nt : Bool} {R : List Rw} (h : mayF R = true) : mfB 4 ⟨#[]⟩ nt R 0 0 false = true := by
  unfold mfB; rw [if_neg (by decide), if_pos rfl, h]; decide
theorem escP_proper {c d : ByteArray} (h : escP c = some d) (hc : properB c.data.toList = true) : properB d.data.toList = true := by
  unfold escP at h
  repeat' split at h
  all_goals first
    | (cases h; done)
    | (injection h with h; subst h; first | exact hc | decide)
def KdA (x : Rt) : Prop := x.k = 2 ∨ x.k = 3 ∨ x.k = 4 ∨ x.k = 5 ∨ x.k = 6 ∨ x.k = 10 ∨ x.k = 11
theorem bak_va {g : Nat} {l r : List UInt8} {x : Rt} (hl : contH l = false) (h : bakP l = .ok x r) : Va g 0 l x r ∧ KdA x := by
  have lf : ∀ (y : UInt8) (k : Int) (nt : Bool) (R : List Rw), (hdC l == [y]) = true → (k = 4 ∨ k = 10 ∨ k = 11) → mfB k ⟨#[]⟩ nt R 0 0 false = true → Res.ok (.mk k ⟨#[]⟩ nt (.slice none 0 0) R 0 0 false (.slice none 0 0) []) (tlC l) = .ok x r → Va g 0 l x r ∧ KdA x := by
    intro y k nt R hy hk hm he
    cases he
    refine ⟨leaf_va g (by rcases hk with h | h | h <;> simp [h]) hm (hd_ne hy) (contH_tl _) (cnt_tl _), ?_⟩
    unfold KdA
    rcases hk with h | h | h
    · exact .inr (.inr (.inl h))
    · exact .inr (.inr (.inr (.inr (.inr (.inl h)))))
    · exact .inr (.inr (.inr (.inr (.inr (.inr h)))))
  unfold bakP at h
  split at h
  · rename_i q; exact lf 98 10 false [] q (by decide) (mf_plain (by decide)) h
  split at h
  · rename_i q; exact lf 66 11 false [] q (by decide) (mf_plain (by decide)) h
  split at h
  · rename_i q; exact lf 100 4 false rD q (by decide) (mf_set may_rD) h
  split at h
  · rename_i q; exact lf 119 4 false rW q (by decide) (mf_set may_rW) h
  split at h
  · rename_i q; exact lf 115 4 false rS q (by decide) (mf_set may_rS) h
  split at h
  · rename_i q; exact lf 68 4 true rD q (by decide) (mf_set may_rD) h
  split at h
  · rename_i q; exact lf 87 4 true rW q (by decide) (mf_set may_rW) h
  split at h
  · rename_i q; exact lf 83 4 true rS q (by decide) (mf_set may_rS) h
  split at h
  · cases h
  · rename_i d hd
    obtain ⟨h1, h2⟩ := escP_sz hd
    have hne : l ≠ [] := by rintro rfl; exact absurd h2 (by decide)
    cases h
    refine ⟨leaf_va g (by simp) (mf_char (escP_proper hd ?_)) (tl_len l hne) (contH_tl _) (cnt_tl _), .inl rfl⟩
    rw [bsC_data]; exact proper_hd hl hne
theorem itemP_va {l : List UInt8} {L : List Rw} {c : ByteArray} {r : List UInt8} (h : itemP l = some (L, c, r)) : contH r = false ∧ r.count 40 ≤ l.count 40 := by
  have h1 := cnt_tl l
  have h2 := cnt_tl (tlC l)
  unfold itemP at h
  split at h
  · split at h
    · cases h; exact ⟨contH_tl _, by omega⟩
    split at h
    · cases h; exact ⟨contH_tl _, by omega⟩
    split at h
    · cases h; exact ⟨contH_tl _, by omega⟩
    cases he : escP (bsC (hdC (tlC l))) with
    | none => rw [he] at h; cases h
    | some d =>
      rw [he] at h
      have h3 : ([] : List Rw) = L ∧ d = c ∧ tlC (tlC l) = r := by simpa using h
      obtain ⟨_, _, rfl⟩ := h3
      exact ⟨contH_tl _, by omega⟩
  · split at h
    · cases h
    · cases h; exact ⟨contH_tl _, by omega⟩
theorem rowsP_va {l : List UInt8} {L : List Rw} {r : List UInt8} (h : rowsP l = some (L, r)) : contH r = false ∧ r.count 40 ≤ l.count 40 := by
  unfold rowsP at h
  split at h
  · cases h
  · rename_i L1 c r1 h1
    obtain ⟨a1, a2⟩ := itemP_va h1
    split at h
    · cases h; exact ⟨a1, a2⟩
    split at h
    · split at h
      · cases h
      · rename_i L2 d r2 h2
        obtain ⟨b1, b2⟩ := itemP_va h2
        have := cnt_tl r1
        split at h
        · cases h
        · cases h; exact ⟨b1, by omega⟩
    · cases h; exact ⟨a1, a2⟩
theorem clsP_va : ∀ (f : Nat) (acc : List Rw) (l : List UInt8) (L : List Rw) (r : List UInt8), clsP f acc l = some (L, r) → contH r = false ∧ r.count 40 ≤ l.count 40
  | 0, _, _, _, _, h => by cases h
  | f + 1, acc, l, L, r, h => by
    rw [clsP] at h
    split at h
    · cases h; exact ⟨contH_tl _, cnt_tl _⟩
    · split at h
      · cases h
      · rename_i L1 r1 h2
        obtain ⟨a1, a2⟩ := rowsP_va h2
        obtain ⟨b1, b2⟩ := clsP_va f _ _ _ _ h
        exact ⟨b1, by omega⟩
theorem class_va {g : Nat} {l r : List UInt8} {x : Rt} (h : classP l = .ok x r) : Va g 0 l x r ∧ KdA x := by
  have hg := class_gd l
  rw [h] at hg
  obtain ⟨g1, _, _⟩ := hg
  unfold classP at h
  split at h
  · cases h
  · rename_i L r1 h1
    obtain ⟨a1, a2⟩ := clsP_va _ _ _ _ _ h1
    cases h
    refine ⟨leaf_va g (by simp) (mf_set (mayF_cls _)) (by omega) a1 ?_, .inr (.inr (.inl rfl))⟩
    refine Nat.le_trans a2 ?_
    split
    · exact cnt_tl _
    · exact Nat.le_refl _
theorem grpE_va {g : Nat} {k : Int} {l r : List UInt8} {x : Rt} {q : Res} (hk : k = 5 ∨ k = 6) (hq : ∀ y s, q = .ok y s → Va g 1 l y s) (h : grpE k q = .ok x r) : ∃ s : List UInt8, okM x = true ∧ contH r = false ∧ pM x + 2 * s.length ≤ 2 * l.length + 2 ∧ s.length = r.length + 1 ∧ gM x + r.count 40 ≤ l.count 40 + 1 ∧ dM x ≤ g + 1 ∧ (k = 6 → gM x + r.count 40 ≤ l.count 40) ∧ x.k = k ∧ 2 * pM x + 3 * s.length ≤ 3 * l.length + 6 := by
  cases q with
  | no => cases h
  | err n => cases h
  | ok y s =>
    simp only [grpE] at h
    split at h
    · rename_i hs
      cases h
      obtain ⟨a1, a2, a3, a4, a5, a6⟩ := hq y s rfl
      have hls : s.length = (tlC s).length + 1 := by
        have := congrArg List.length (hd_tl s)
        rw [List.length_append, beq_iff_eq.1 hs] at this
        simp at this; omega
      have hcs := cnt_tl s
      refine ⟨s, ?_, contH_tl _, ?_, hls, ?_, ?_, ?_, rfl, ?_⟩
      · rw [okM_eq]
        show (mfB k ⟨#[]⟩ false [] 0 0 false && mkB k [y] && okL [y]) = true
        have e1 : mfB k ⟨#[]⟩ false [] 0 0 false = true := mf_plain (by rcases hk with h | h <;> simp [h])
        have e2 : mkB k [y] = true := by unfold mkB; rcases hk with rfl | rfl <;> simp
        rw [e1, e2]
        simp [okL, a1]
      · rw [pM_eq]; show 1 + (pM y + 0) + _ ≤ _; omega
      · rw [gM_eq]
        show (if k = 5 then 1 else 0) + (gM y + 0) + _ ≤ _
        split <;> omega
      · rw [dM_eq]
        show max (dM y) 0 + (if k = 5 ∨ k = 6 then 1 else 0) ≤ _
        split <;> omega
      · intro h6
        rw [gM_eq]
        show (if k = 5 then 1 else 0) + (gM y + 0) + _ ≤ _
        rw [if_neg (by omega)]; omega
      · rw [pM_eq]; show 2 * (1 + (pM y + 0)) + _ ≤ _; omega
    · cases h
def PatV (g : Nat) (deep : Bool) (pat : List UInt8 → Res) : Prop := deep = false → 0 < g ∧ (∀ l, Gd 0 2 l (pat l)) ∧ ∀ l y s, contH l = false → pat l = .ok y s → Va (g - 1) 1 l y s
theorem atom_va {g : Nat} {deep : Bool} {pat : List UInt8 → Res} (hp : PatV g deep pat) {l r : List UInt8} {x : Rt} (hc : contH l = false) (hl : l ≠ []) (h : atomP deep pat l = .ok x r) : Va g 0 l x r ∧ KdA x := by
  have ht := tl_len l hl
  have hcl := cnt_tl l
  unfold atomP at h
  split at h
  · cases h
    exact ⟨leaf_va g (by simp) (mf_plain (by decide)) ht (contH_tl _) hcl, .inr (.inl rfl)⟩
  split at h
  · rename_i q40
    have hc40 := cnt_hd q40
    unfold grpP at h
    split at h
    · cases h
    · rename_i hd
      obtain ⟨hg, _, hp⟩ := hp (Bool.eq_false_iff.2 hd)
      split at h
      · rename_i q1
        have h1 := hd_ne q1
        split at h
        · rename_i q2
          have h2 := hd_ne q2
          have := cnt_tl (tlC l)
          have := cnt_tl (tlC (tlC l))
          obtain ⟨s, b1, b2, b3, b4, b5, b6, b7, b8, b9⟩ := grpE_va (.inr rfl) (fun y s e => hp _ y s (contH_tl _) e) h
          exact ⟨⟨b1, b2, by omega, by have := b7 rfl; omega, by omega, by omega⟩, .inr (.inr (.inr (.inr (.inl b8))))⟩
        · cases h
      · obtain ⟨s, b1, b2, b3, b4, b5, b6, b7, b8, b9⟩ := grpE_va (.inl rfl) (fun y s e => hp _ y s (contH_tl _) e) h
        exact ⟨⟨b1, b2, by omega, by omega, by omega, by omega⟩, .inr (.inr (.inr (.inl b8)))⟩
  split at h
  · obtain ⟨⟨b1, b2, b3, b4, b5, b7⟩, b6⟩ := class_va (g := g) h
    exact ⟨⟨b1, b2, by omega, by omega, b5, by omega⟩, b6⟩
  split at h
  · obtain ⟨⟨b1, b2, b3, b4, b5, b7⟩, b6⟩ := bak_va (g := g) (contH_tl _) h
    exact ⟨⟨b1, b2, by omega, by omega, b5, by omega⟩, b6⟩
  split at h
  · cases h
  split at h
  · cases h
  split at h
  · cases h
  split at h
  · cases h
  · cases h
    exact ⟨leaf_va g (by simp) (mf_char (by rw [bsC_data]; exact proper_hd hc hl)) ht (contH_tl _) hcl, .inl rfl⟩
theorem cont_numR : ∀ (f n k : Nat) (l : List UInt8), contH l = false → contH (numR f n k l).2.2 = false ∧ (numR f n k l).2.2.count 40 ≤ l.count 40
  | 0, _, _, l, h => ⟨h, Nat.le_refl _⟩
  | f + 1, n, k, l, h => by
    rw [numR]
    split
    · split
      · have := cont_numR f (n * 10 + (‹UInt8›.toNat - 48)) (k + 1) (tlC l) (contH_tl _)
        exact ⟨this.1, Nat.le_trans this.2 (cnt_tl l)⟩
      · exact ⟨h, Nat.le_refl _⟩
    · exact ⟨h, Nat.le_refl _⟩
theorem bndP_va {l : List UInt8} {n : Nat} {m : Int} {r : List UInt8} (hl : contH l = false) (h : bndP l = some (n, m, r)) : rngB n m = true ∧ contH r = false ∧ r.count 40 ≤ l.count 40 := by
  have ok : ∀ {a b : Nat}, numOk a b = true → a ≤ 255 := by
    intro a b h; unfold numOk at h; simp at h; exact h.2.2
  unfold bndP at h
  obtain ⟨c1, d1⟩ := cont_numR 4 0 0 l hl
  have d2 := cnt_tl (numR 4 0 0 l).2.2
  have d3 := cnt_tl (tlC (numR 4 0 0 l).2.2)
  obtain ⟨c4, d4⟩ := cont_numR 4 0 0 (tlC (numR 4 0 0 l).2.2) (contH_tl _)
  have d5 := cnt_tl (numR 4 0 0 (tlC (numR 4 0 0 l).2.2)).2.2
  simp only at h
  split at h
  · rename_i h1
    have h1 := ok h1
    split at h
    · split at h
      · cases h
        exact ⟨by unfold rngB; simp; omega, contH_tl _, by omega⟩
      · split at h
        · rename_i h2
          simp only [Bool.and_eq_true, decide_eq_true_eq] at h2
          have h3 := ok h2.1
          cases h
          exact ⟨by unfold rngB; simp; omega, contH_tl _, by omega⟩
        · cases h
    · split at h
      · cases h
        exact ⟨by unfold rngB; simp; omega, contH_tl _, by omega⟩
      · cases h
  · cases h
theorem laz_va {g : Nat} {mi ma : Int} {x y : Rt} {l r0 r s : List UInt8} (hx : Va g 0 l x r) (hk : KdA x) (hkn : ¬ (x.k = 10 ∨ x.k = 11)) (hr : rngB mi ma = true) (h1 : r0.length < r.length) (h2 : r0.count 40 ≤ r.count 40) (h3 : contH r0 = false) (h : lazP mi ma x r0 = .ok y s) : Va g 0 l y s ∧ y.k = 7 := by
  obtain ⟨a1, a2, a3, a4, a5, a6⟩ := hx
  unfold lazP at h
  have hs : s.length ≤ r0.length ∧ s.count 40 ≤ r0.count 40 ∧ contH s = false ∧ y = repX mi ma (hdC r0 == [63]) x := by
    cases h
    split
    · exact ⟨tl_le _, cnt_tl _, contH_tl _, rfl⟩
    · exact ⟨Nat.le_refl _, Nat.le_refl _, h3, rfl⟩
  obtain ⟨b1, b2, b3, rfl⟩ := hs
  have hat : atomB x.k = true := by
    unfold atomB
    unfold KdA at hk
    rcases hk with h | h | h | h | h | h | h
    · simp [h]
    · simp [h]
    · simp [h]
    · simp [h]
    · simp [h]
    · exact absurd (.inl h) hkn
    · exact absurd (.inr h) hkn
  refine ⟨⟨?_, b3, ?_, ?_, ?_, ?_⟩, rfl⟩
  · rw [okM_eq]
    show (mfB 7 ⟨#[]⟩ false [] mi ma (hdC r0 == [63]) && mkB 7 [x] && okL [x]) = true
    have e1 : mfB 7 ⟨#[]⟩ false [] mi ma (hdC r0 == [63]) = true := by
      unfold mfB; rw [if_neg (by decide), if_neg (by decide), if_pos rfl, hr]; decide
    have e2 : mkB 7 [x] = true := by unfold mkB; simp [hat]
    rw [e1, e2]; simp [okL, a1]
  · rw [pM_eq]; show 1 + (pM x + 0) + _ ≤ _; omega
  · rw [gM_eq]; show 0 + (gM x + 0) + _ ≤ _; omega
  · rw [dM_eq]; show max (dM x) 0 + 0 ≤ _; omega
  · rw [pM_eq]; show 2 * (1 + (pM x + 0)) + _ ≤ _; omega
def KdT (x : Rt) : Prop := KdA x ∨ x.k = 7 ∨ x.k = 8 ∨ x.k = 9
theorem term_va {g : Nat} {deep : Bool} {pat : List UInt8 → Res} (hp : PatV g deep pat) {l r : List UInt8} {x : Rt} (hc : contH l = false) (hl : l ≠ []) (h : termP deep pat l = .ok x r) : Va g 0 l x r ∧ KdT x := by
  have ht := tl_len l hl
  have hcl := cnt_tl l
  unfold termP at h
  split at h
  · cases h; exact ⟨leaf_va g (by simp) (mf_plain (by decide)) ht (contH_tl _) hcl, .inr (.inr (.inl rfl))⟩
  split at h
  · cases h; exact ⟨leaf_va g (by simp) (mf_plain (by decide)) ht (contH_tl _) hcl, .inr (.inr (.inr rfl))⟩
  split at h
  · cases h
  · cases h
  · rename_i y s q
    obtain ⟨hv, hk⟩ := atom_va hp hc hl q
    split at h
    · cases h; exact ⟨hv, .inl hk⟩
    · rename_i hkn
      have go : ∀ (mi ma : Int) (r0 : List UInt8), rngB mi ma = true → r0.length < s.length → r0.count 40 ≤ s.count 40 → contH r0 = false → lazP mi ma y r0 = .ok x r → Va g 0 l x r ∧ KdT x := by
        intro mi ma r0 e1 e2 e3 e4 e5
        obtain ⟨f1, f2⟩ := laz_va hv hk hkn e1 e2 e3 e4 e5
        exact ⟨f1, .inr (.inl f2)⟩
      unfold qntP at h
      split at h
      · rename_i q1; exact go _ _ _ (by decide) (hd_ne q1) (cnt_tl _) (contH_tl _) h
      split at h
      · rename_i q1; exact go _ _ _ (by decide) (hd_ne q1) (cnt_tl _) (contH_tl _) h
      split at h
      · rename_i q1; exact go _ _ _ (by decide) (hd_ne q1) (cnt_tl _) (contH_tl _) h
      split at h
      · rename_i q1
        split at h
        · cases h
        · rename_i n m r0 hb
          obtain ⟨f1, f2, f3⟩ := bndP_va (contH_tl _) hb
          have := bndP_le hb
          have := hd_ne q1
          have := cnt_tl s
          exact go _ _ _ f1 (by omega) (by omega) f2 h
      · cases h; exact ⟨hv, .inl hk⟩
theorem kdT_seq {x : Rt} (h : KdT x) : seqkB x.k = true ∧ x.k ≠ 0 ∧ x.k ≠ 1 := by
  unfold KdT KdA at h
  unfold seqkB
  rcases h with (h | h | h | h | h | h | h) | h | h | h <;> simp [h]
theorem flK_none {k : Int} {l : List Rt} (h : ∀ x ∈ l, x.k ≠ k) (he : l.map er = l) : flK k l = l := by
  induction l with
  | nil => rfl
  | cons a r ih =>
    have h1 : er a = a := by have := congrArg List.head? he; simpa using this
    have h2 : r.map er = r := by have := congrArg List.tail he; simpa using this
    have ih := ih (fun x hx => h x (List.mem_cons_of_mem _ hx)) h2
    unfold flK at ih ⊢
    rw [List.flatMap_cons, ih, if_neg (h a List.mem_cons_self), h1]; rfl
theorem okL_all {l : List Rt} : okL l = true ↔ ∀ x ∈ l, okM x = true := by
  induction l with
  | nil => simp [okL]
  | cons a r ih => simp [okL, ih]
structure TAcc (g : Nat) (acc : List Rt) : Prop where
  ok : ∀ x ∈ acc, okM x = true
  kd : ∀ x ∈ acc, KdT x
  er : acc.map Go.Proofs.YtcnliipkfccohabGreat.er = acc
  dm : dL acc ≤ g
theorem seq_va {g : Nat} {acc : List Rt} (h : TAcc g acc) : okM (seqX (flK 0 acc)) = true ∧ pM (seqX (flK 0 acc)) ≤ pL acc + 1 ∧ gM (seqX (flK 0 acc)) = gL acc ∧ dM (seqX (flK 0 acc)) ≤ g ∧ (KdT (seqX (flK 0 acc)) ∨ ((seqX (flK 0 acc)).k = 0 ∧ (seqX (flK 0 acc)).kids = acc ∧ acc.length ≠ 1)) := by
  rw [flK_none (fun x hx => (kdT_seq (h.kd x hx)).2.1) h.er]
  unfold seqX
  split
  · rename_i hl
    match acc, hl, h with
    | [a], _, h =>
      have hd := h.dm
      refine ⟨h.ok a (by simp), ?_, ?_, ?_, .inl (h.kd a (by simp))⟩
      · show pM a ≤ pM a + 0 + 1; omega
      · show gM a = gM a + 0; omega
      · show dM a ≤ g
        have : dL [a] = max (dM a) 0 := rfl
        omega
  · rename_i hl
    refine ⟨?_, ?_, ?_, ?_, .inr ⟨rfl, rfl, hl⟩⟩
    · rw [okM_eq]
      show (mfB 0 ⟨#[]⟩ false [] 0 0 false && mkB 0 acc && okL acc) = true
      have e1 : mfB 0 ⟨#[]⟩ false [] 0 0 false = true := by decide
      have e2 : mkB 0 acc = true := by
        unfold mkB
        rw [if_pos rfl]
        simp only [Bool.and_eq_true, Bool.not_eq_true', decide_eq_false_iff_not, List.all_eq_true]
        exact ⟨hl, fun x hx => (kdT_seq (h.kd x hx)).1⟩
      rw [e1, e2, okL_all.2 h.ok]; rfl
    · rw [pM_eq]; show 1 + pL acc ≤ _; omega
    · rw [gM_eq]; show 0 + gL acc = _; omega
    · rw [dM_eq]; show dL acc + 0 ≤ _; have := h.dm; omega
theorem terms_va {g : Nat} {deep : Bool} {pat : List UInt8 → Res} (hp : PatV g deep pat) : ∀ (n : Nat) (acc : List Rt) (l : List UInt8) (x : Rt) (r : List UInt8), TAcc g acc → contH l = false → termsP deep pat n acc l = .ok x r →
    okM x = true ∧ contH r = false ∧ pM x + 2 * r.length ≤ pL acc + 2 * l.length + 1 ∧ gM x + r.count 40 ≤ gL acc + l.count 40 ∧ dM x ≤ g ∧ x.k ≠ 1 ∧ er x = x ∧ endB r = true ∧ 2 * pM x + 3 * r.length ≤ 2 * pL acc + 3 * l.length + 2
  | 0, _, _, _, _, _, _, h => by cases h
  | n + 1, acc, l, x, r, ha, hc, h => by
    rw [termsP] at h
    split at h
    · rename_i hE
      cases h
      obtain ⟨b1, b2, b3, b4, b5⟩ := seq_va ha
      refine ⟨b1, hc, by omega, by omega, b4, ?_, (seqX_gd _ (flK_ers 0 acc)).2, hE, by omega⟩
      rcases b5 with b5 | b5
      · exact (kdT_seq b5).2.2
      · rw [b5.1]; decide
    · rename_i q
      have hl : l ≠ [] := by rintro rfl; exact q rfl
      split at h
      · cases h
      · cases h
      · rename_i y s e
        obtain ⟨⟨c1, c2, c3, c4, c5, c6⟩, ck⟩ := term_va hp hc hl e
        have hey : er y = y := by
          have := term_gd (fun hd => (hp hd).2.1) l hl
          rw [e] at this
          exact this.2.2
        have h2 := terms_va hp n (acc ++ [y]) s x r ⟨fun z hz => by
            rcases List.mem_append.1 hz with hz | hz
            · exact ha.ok z hz
            · obtain rfl : z = y := by simpa using hz
              exact c1, fun z hz => by
            rcases List.mem_append.1 hz with hz | hz
            · exact ha.kd z hz
            · obtain rfl : z = y := by simpa using hz
              exact ck, by rw [List.map_append, ha.er]; simp [hey], by
            rw [dL_app]; have := ha.dm; show max (dL acc) (max (dM y) 0) ≤ g; omega⟩ c2 h
        rw [pL_app, gL_app] at h2
        obtain ⟨d1, d2, d3, d4, d5, d6, d7, d8, d9⟩ := h2
        have e1 : pL [y] = pM y + 0 := rfl
        have e2 : gL [y] = gM y + 0 := rfl
        exact ⟨d1, d2, by omega, by omega, d5, d6, d7, d8, by omega⟩
structure AAcc (g : Nat) (acc : List Rt) : Prop where
  ok : ∀ x ∈ acc, okM x = true
  kd : ∀ x ∈ acc, x.k ≠ 1
  er : acc.map Go.Proofs.YtcnliipkfccohabGreat.er = acc
  dm : dL acc ≤ g
theorem alt_va {g : Nat} {acc : List Rt} (h : AAcc g acc) (h0 : acc ≠ []) : okM (altX (flK 1 acc)) = true ∧ pM (altX (flK 1 acc)) + (if acc.length = 1 then 1 else 0) = pL acc + 1 ∧ gM (altX (flK 1 acc)) = gL acc ∧ dM (altX (flK 1 acc)) ≤ g := by
  rw [flK_none (fun x hx => h.kd x hx) h.er]
  unfold altX
  rw [if_neg (by simpa using h0)]
  split
  · rename_i hl
    match acc, hl, h with
    | [a], _, h =>
      have hd := h.dm
      refine ⟨h.ok a (by simp), ?_, ?_, ?_⟩
      · show pM a + 1 = pM a + 0 + 1; omega
      · show gM a = gM a + 0; omega
      · show dM a ≤ g
        have : dL [a] = max (dM a) 0 := rfl
        omega
  · rename_i hl
    refine ⟨?_, ?_, ?_, ?_⟩
    · rw [okM_eq]
      show (mfB 1 ⟨#[]⟩ false [] 0 0 false && mkB 1 acc && okL acc) = true
      have e1 : mfB 1 ⟨#[]⟩ false [] 0 0 false = true := by decide
      have e2 : mkB 1 acc = true := by
        unfold mkB
        rw [if_neg (by decide), if_pos rfl]
        simp only [Bool.and_eq_true, decide_eq_true_eq, List.all_eq_true]
        refine ⟨?_, fun x hx => ?_⟩
        · have : acc.length ≠ 0 := by simpa using h0
          omega
        · unfold altkB; simp [h.kd x hx]
      rw [e1, e2, okL_all.2 h.ok]; rfl
    · rw [pM_eq]; show 1 + pL acc + 0 = _; omega
    · rw [gM_eq]; show 0 + gL acc = _; omega
    · rw [dM_eq]; show dL acc + 0 ≤ _; have := h.dm; omega
theorem alts_va {g : Nat} {deep : Bool} {pat : List UInt8 → Res} (hp : PatV g deep pat) (N M : Nat) : ∀ (n : Nat) (acc : List Rt) (l : List UInt8) (x : Rt) (r : List UInt8), AAcc g acc → contH l = false → pL acc + acc.length + 2 * l.length ≤ N → 2 * pL acc + acc.length + 3 * l.length ≤ M → altsP deep pat n acc l = .ok x r →
    okM x = true ∧ contH r = false ∧ pM x + 2 * r.length ≤ N + 1 ∧ gM x + r.count 40 ≤ gL acc + l.count 40 ∧ dM x ≤ g ∧ er x = x ∧ (r = [] ∨ (hdC r == [41]) = true) ∧ 2 * pM x + 3 * r.length ≤ M + 4
  | 0, _, _, _, _, _, _, _, _, h => by cases h
  | n + 1, acc, l, x, r, ha, hc, hN, hM, h => by
    rw [altsP] at h
    split at h
    · cases h
    · cases h
    · rename_i y s e
      obtain ⟨b1, b2, b3, b4, b5, b6, b7, b8, b9⟩ := terms_va hp _ [] l y s ⟨by simp, by simp, rfl, Nat.zero_le _⟩ hc e
      have hbA : AAcc g (acc ++ [y]) := ⟨fun z hz => by
            rcases List.mem_append.1 hz with hz | hz
            · exact ha.ok z hz
            · obtain rfl : z = y := by simpa using hz
              exact b1, fun z hz => by
            rcases List.mem_append.1 hz with hz | hz
            · exact ha.kd z hz
            · obtain rfl : z = y := by simpa using hz
              exact b6, by rw [List.map_append, ha.er]; simp [b7], by
            rw [dL_app]; have := ha.dm; show max (dL acc) (max (dM y) 0) ≤ g; omega⟩
      have e0 : pL ([] : List Rt) = 0 := rfl
      have e00 : gL ([] : List Rt) = 0 := rfl
      have e1 : pL (acc ++ [y]) = pL acc + pM y := by rw [pL_app]; rfl
      have e2 : gL (acc ++ [y]) = gL acc + gM y := by rw [gL_app]; rfl
      split at h
      · rename_i q
        have hcs := cnt_tl s
        have hs := hd_ne q
        have h2 := alts_va hp N M n (acc ++ [y]) (tlC s) x r hbA (contH_tl _) (by rw [e1, List.length_append, List.length_singleton]; omega) (by rw [e1, List.length_append, List.length_singleton]; omega) h
        obtain ⟨d1, d2, d3, d4, d5, d6, d7, d8⟩ := h2
        exact ⟨d1, d2, d3, by omega, d5, d6, d7, d8⟩
      · rename_i q
        cases h
        obtain ⟨c1, c2, c3, c4⟩ := alt_va hbA (by simp)
        refine ⟨c1, b2, ?_, by omega, c4, (altX_gd _ (flK_ers 1 _)).2, ?_, ?_⟩
        · rw [List.length_append, List.length_singleton] at c2
          split at c2 <;> omega
        · unfold endB at b8
          simp only [Bool.or_eq_true, List.isEmpty_iff] at b8
          rcases b8 with b8 | b8 | b8
          · exact .inl b8
          · exact absurd b8 q
          · exact .inr b8
        · rw [List.length_append, List.length_singleton] at c2
          split at c2 <;> omega
theorem pat_va : ∀ (f : Nat) (l : List UInt8) (x : Rt) (r : List UInt8), contH l = false → patP (f + 1) l = .ok x r → Va f 1 l x r ∧ er x = x ∧ (r = [] ∨ (hdC r == [41]) = true) := by
  intro f
  induction f with
  | zero =>
    intro l x r hc h
    have hp : PatV 0 true (patP 0) := fun q => by cases q
    obtain ⟨d1, d2, d3, d4, d5, d6, d7, d8⟩ := alts_va hp (2 * l.length) (3 * l.length) _ [] l x r ⟨by simp, by simp, rfl, Nat.zero_le _⟩ hc (by simp [pL]) (by simp [pL]) h
    exact ⟨⟨d1, d2, d3, by simpa [gL] using d4, d5, d8⟩, d6, d7⟩
  | succ f ih =>
    intro l x r hc h
    have hp : PatV (f + 1) false (patP (f + 1)) := fun _ => ⟨Nat.succ_pos _, pat_gd f, fun l y s h1 h2 => (ih l y s h1 h2).1⟩
    obtain ⟨d1, d2, d3, d4, d5, d6, d7, d8⟩ := alts_va hp (2 * l.length) (3 * l.length) _ [] l x r ⟨by simp, by simp, rfl, Nat.zero_le _⟩ hc (by simp [pL]) (by simp [pL]) h
    exact ⟨⟨d1, d2, d3, by simpa [gL] using d4, d5, d8⟩, d6, d7⟩
theorem readP_va {l : List UInt8} {x : Rt} {r : List UInt8} (h : readP l = .ok x r) : l.length ≤ 256 ∧ contH l = false ∧ r = [] ∧ patP 17 l = .ok x [] ∧ er x = x ∧ okM x = true ∧ pM x ≤ 2 * l.length + 1 ∧ gM x ≤ l.count 40 ∧ dM x ≤ 16 ∧ sM x ≤ 8 * l.length + 2 ∧ pM x ≤ 386 := by
  unfold readP at h
  split at h
  · cases h
  split at h
  · cases h
  · rename_i h1 h2
    have hc : contH l = false := Bool.eq_false_iff.2 h2
    have hg := pat_gd 16 l
    cases hp : patP 17 l with
    | no => rw [hp] at h; cases h
    | err n => rw [hp] at h; cases h
    | ok y s =>
      rw [hp] at h hg
      simp only [readE] at h
      split at h
      · rename_i hs
        injection h with q1 q2
        subst q1
        subst q2
        have hs : s = [] := List.isEmpty_iff.1 hs
        subst hs
        obtain ⟨⟨a1, a2, a3, a4, a5, a7⟩, a6, _⟩ := pat_va 16 l y [] hc hp
        obtain ⟨_, g2, _⟩ := hg
        simp only [List.length_nil, List.count_nil] at *
        exact ⟨by omega, hc, trivial, trivial, a6, a1, by omega, by omega, a5, by omega, by omega⟩
      · cases h
theorem readP_cases (l : List UInt8) : (∃ n, readP l = .err n ∧ (n = 4 ∨ n = 8 ∨ n = 10)) ∨ ∃ x, readP l = .ok x [] := by
  unfold readP
  split
  · exact .inl ⟨_, rfl, .inl rfl⟩
  split
  · exact .inl ⟨_, rfl, .inr (.inr rfl)⟩
  · have hg := pat_gd 16 l
    cases hp : patP 17 l with
    | no => rw [hp] at hg; exact absurd hg (fun h => h)
    | err n => rw [hp] at hg; exact .inl ⟨n, rfl, by rcases hg with h | h; exact .inr (.inl h); exact .inr (.inr h)⟩
    | ok y s =>
      simp only [readE]
      split
      · rename_i hs
        have hs : s = [] := List.isEmpty_iff.1 hs
        subst hs
        exact .inr ⟨y, rfl⟩
      · exact .inl ⟨_, rfl, .inr (.inr rfl)⟩
end
end Go.Proofs.YtcnliipkfccohabGreat
end
