/- Small facts that the laws share: a slice of one edit, an edit by itself. -/
import Derived.Test.YtjmoeahlbgdkbaaEdK
namespace Go.Proofs.Ytjmoeahlbgdkbaa
open Go.ChangeShapes Go.WideShapes Go.ChangeAt Go.RowKit
open SpanM EdM
theorem alloc1 (w : World) (f t : Int) (x : ByteArray) : EdAt (w.alloc (.cells #[.int .i64 f, .int .i64 t, .string x] 61)) (.slice (some ⟨w.heap.size, 0, none⟩) 1 1) [((f, t), x)] := allocE w [((f, t), x)] (by simp)
theorem sort_one (e : Ed) : sortE [e] = [e] := sortE_self _ (List.pairwise_singleton _ _)
theorem mv_one (right : Bool) (a : Int) (e : Ed) : mvR right (sortE [e]) a = mv1 right a e := by rw [sort_one]; rfl
theorem app_one (s : Bs) (e : Ed) : appR s (sortE [e]) = EdM.one s e := by rw [sort_one]; rfl
theorem mvR_drop (right : Bool) (l : List Ed) (k : Nat) (h : k < l.length) (a : Int) : mvR right (l.drop k) a = mv1 right (mvR right (l.drop (k + 1)) a) l[k] := by
  rw [List.drop_eq_getElem_cons h]; rfl
theorem app_drop (s : Bs) (l : List Ed) (k : Nat) (h : k < l.length) : appR s (l.drop k) = EdM.one (appR s (l.drop (k + 1))) l[k] := by
  rw [List.drop_eq_getElem_cons h]; rfl
theorem mv_wide (right : Bool) (l : List Ed) (hg : ∀ e ∈ l, Good e) (a : Int) (ha : -1099511627776 ≤ a ∧ a ≤ 1099511627776) (hl : l.length ≤ 20) : -1125899906842624 ≤ mvR right l a ∧ mvR right l a ≤ 1125899906842624 := by
  have key : ∀ (l : List Ed), (∀ e ∈ l, Good e) → -1099511627776 - (l.length : Int) * 8796093022208 ≤ mvR right l a ∧ mvR right l a ≤ 1099511627776 + (l.length : Int) * 8796093022208 := by
    intro l
    induction l with
    | nil => intro _; simpa [mvR] using ha
    | cons e r ih =>
      intro hg
      have h1 := ih (fun x hx => hg x (by simp [hx]))
      obtain ⟨h2, h3, h4⟩ := hg e (by simp)
      have h5 := len_nn e
      have h6 : len e ≤ 70000 := by unfold len; omega
      rw [mvR_cons]
      simp only [List.length_cons]
      unfold mv1 dl
      repeat' split
      all_goals omega
  have := key l hg
  omega
theorem edat_long {w : World} {v : Value} {l : List Ed} (h : EdAt w v l) : l.length ≤ maxLen := by
  rcases h with ⟨_, h⟩ | ⟨x, c, _, h1, h2, _⟩
  · subst h; simp
  · omega
theorem ap_at {n : Int} {l : List Ed} (h : AP n l) (hn : n ≤ 1000) : ∀ e ∈ l, 0 ≤ e.1.1 ∧ e.1.1 ≤ e.1.2 ∧ e.1.2 ≤ 1000 ∧ e.2.size ≤ 200 := fun e he => by
  have h1 := chain_mem h.chain e he
  have h2 := sizes_mem e he
  have h3 := h.sizes
  omega
/-- One edit within a text that is short. -/
theorem fine_one {n : Int} {e : Ed} (h0 : 0 ≤ e.1.1) (h1 : e.1.1 ≤ e.1.2) (h2 : e.1.2 ≤ n) (hn : n ≤ 10000) (hs : e.2.size ≤ 10000) : Fine n [e] := by
  refine ⟨by rw [sort_one]; exact ⟨h0, h1, h2⟩, by rw [sort_one]; exact List.pairwise_singleton _ _, ?_, fun x hx => by rw [List.mem_singleton] at hx; subst hx; exact ⟨h0, h1, h2⟩⟩
  rw [grown_add, tot_one]
  unfold dl len
  omega
/-- What is there when the edits from q on have been done, from the last one to the first. -/
theorem drop_size {n : Int} {l : List Ed} (h : AP n l) (s : Bs) (hs : (s.length : Int) = n) (q : Nat) (hq : q < l.length) : l[q].1.2 ≤ ((appR s (l.drop (q + 1))).length : Int) ∧ ((appR s (l.drop (q + 1))).length : Int) ≤ n + 200 := by
  have hc := h.chain
  rw [← hs] at hc
  rw [← List.take_append_drop q l, List.drop_eq_getElem_cons hq] at hc
  have h1 := chain_right hc
  obtain ⟨c1, c2, c3⟩ := h1
  obtain ⟨l1, l2⟩ := appR_len s (l.drop (q + 1)) l[q].1.2 (by omega) c3
  have hle := chain_le c3
  refine ⟨?_, ?_⟩
  · have := congrArg List.length (l2 l[q].1.2 (Int.le_refl _))
    simp only [List.length_take] at this
    omega
  · have h2 := tot_sizes c3
    have h3 := h.sizes
    have h4 : sizes (l.drop (q + 1)) ≤ sizes l := by
      have : ∀ (k : Nat) (l : List Ed), sizes (l.drop k) ≤ sizes l := by
        intro k
        induction k with
        | zero => intro l; simp
        | succ k ih =>
          intro l
          cases l with
          | nil => simp
          | cons a r =>
            have e1 : sizes (a :: r) = a.2.size + sizes r := rfl
            have := ih r
            rw [List.drop_succ_cons, e1]; omega
      exact this _ _
    omega
theorem sep_sorted {l : List Ed} (h : Sep l) (hf : ∀ e ∈ l, e.1.1 ≤ e.1.2) : SortedE l := by
  refine h.imp_of_mem fun {a b} ha _ hab => ?_
  have := hf a ha
  unfold le; omega
theorem sep_R {l : List Ed} (h : Sep l) (hf : ∀ e ∈ l, e.1.1 ≤ e.1.2) : l.Pairwise fun a b => R a.1 b.1 := by
  refine h.imp_of_mem fun {a b} ha _ hab => ?_
  have := hf a ha
  unfold R; omega
theorem inv_tot (s : Bs) (l : List Ed) : ∀ {a : Int} (d : Int), 0 ≤ a → Chain s.length a l → tot (inv s d l) = - tot l := by
  induction l with
  | nil => intro a d _ _; rfl
  | cons e r ih =>
    intro a d h0 h
    obtain ⟨h1, h2, h3⟩ := h
    have hn := chain_le h3
    rw [inv_cons, tot_cons, tot_cons, ih (d + dl e) (by omega) h3]
    have hx : len ((e.1.1 + d, e.1.1 + d + len e), mkT ((s.take e.1.2.toNat).drop e.1.1.toNat)) = e.1.2 - e.1.1 := by
      unfold len
      simp only [mk_size, List.length_drop, List.length_take]
      omega
    have hd : dl ((e.1.1 + d, e.1.1 + d + len e), mkT ((s.take e.1.2.toNat).drop e.1.1.toNat)) = - dl e := by
      unfold dl
      rw [hx]
      show _ - (e.1.1 + d + len e - (e.1.1 + d)) = _
      omega
    rw [hd]; omega
theorem inv_text (s : Bs) (l : List Ed) : ∀ (d : Int), ∀ e ∈ inv s d l, e.2.size ≤ s.length := by
  induction l with
  | nil => intro d e he; simp [inv] at he
  | cons x r ih =>
    intro d e he
    rw [inv_cons] at he
    rcases List.mem_cons.1 he with rfl | he
    · show (mkT _).size ≤ _
      rw [mk_size, List.length_drop, List.length_take]; omega
    · exact ih _ e he
theorem grp_sizes (l : List Ed) : sizes (grp l) = sizes l := by
  refine snoc_ind (P := fun l => sizes (grp l) = sizes l) rfl (fun l e ih => ?_) l
  rw [grp_snoc, sizes_snoc, ← ih]
  rcases List.eq_nil_or_concat (grp l) with h | ⟨a, g, h⟩
  · rw [h, stepG_nil]; simp [sizes]
  · rw [h, List.concat_eq_append]
    by_cases hg : g.1.2 = e.1.1
    · rw [stepG_on _ _ _ hg, sizes_snoc, sizes_snoc]
      show _ + (mkT _).size = _
      rw [mk_size, List.length_append, bts_len, bts_len]; omega
    · rw [stepG_new _ _ _ hg, sizes_snoc]
/-- What turns back, of edits that rise and stay apart. -/
structure Turns (s T : ByteArray) (l B G : List Ed) : Prop where
  text : bts T = appR (bts s) l
  size : T.size ≤ 1000
  sortB : sortE B = B
  sortG : sortE G = G
  lenB : B.length ≤ l.length
  lenG : G.length = B.length
  fineB : Fine T.size B
  fineG : Fine s.size G
  back : appR (bts T) B = bts s
  again : inv (bts T) 0 (grp B) = G
  forth : appR (bts s) G = bts T
  sep : Sep B
  goodB : ∀ e ∈ B, Good e
  smallB : ∀ e ∈ B, e.2.size ≤ 70000
  smallG : ∀ e ∈ G, e.2.size ≤ 70000
  move : ∀ k, Clear k l → mvR true B (mvR true l k) = k
theorem turns_of (s : ByteArray) (l : List Ed) (h : AP s.size l) (hs : s.size ≤ 200) : Turns s (mkT (appR (bts s) l)) l (inv (bts s) 0 (grp l)) (grp l) := by
  have hc : Chain (bts s).length 0 l := by rw [bts_len]; exact h.chain
  have hcG := grp_chain l hc
  have hsG := grp_sep l hc
  have hGA := grp_app l (bts s) hc
  have hGT := grp_tot l
  have hlen := grp_le l
  have hgs := grp_sizes l
  have hts := tot_sizes hc
  have hsz := h.sizes
  have hmG := chain_mem hcG
  have hTl := (appR_len (bts s) l 0 (Int.le_refl _) hc).1
  have hcB := inv_chain (bts s) (grp l) (d := 0) hcG
  have hsB := inv_sep (bts s) (grp l) (d := 0) hcG hsG
  have htB := inv_tot (bts s) (grp l) 0 (Int.le_refl _) hcG
  have hxB := inv_text (bts s) (grp l) 0
  have hlB := inv_len (bts s) (grp l) 0
  have hund := undo (bts s) (grp l) 0 0 [] (Int.le_refl _) hcG rfl
  have hinv := inv_inv (bts s) (grp l) 0 0 [] (Int.le_refl _) hcG rfl
  have hmv := fun k (hk : Clear k l) => mv_back (bts s) (grp l) (d := 0) (k := k) (Int.le_refl _) hcG (clear_grp l hc hk)
  have hLR := appR_L (bts s) (grp l) hcG
  rw [bts_len] at hTl
  have hTs : ((mkT (appR (bts s) l)).size : Int) = s.size + tot l := by rw [mk_size]; exact hTl
  have hbT : bts (mkT (appR (bts s) l)) = appL (bts s) 0 (grp l) := by rw [bts_mk, ← hGA, hLR]
  rw [bts_len, hGT, Int.add_zero, Int.add_zero, ← hTs] at hcB
  have hmB := chain_mem hcB
  simp only [List.nil_append, Int.add_zero, Int.neg_zero] at hund hinv
  have hsoG := sortE_self _ (sep_sorted hsG (fun e he => (hmG e he).2.1))
  have hsoB := sortE_self _ (sep_sorted hsB.1 (fun e he => (hmB e he).2.1))
  have hLB := appR_L (bts (mkT (appR (bts s) l))) (inv (bts s) 0 (grp l)) (by rw [bts_len]; exact hcB)
  have hgg : ∀ e ∈ grp l, e.2.size ≤ 200 := fun e he => by have := sizes_mem e he; omega
  exact {
    text := bts_mk _
    size := by omega
    sortB := hsoB
    sortG := hsoG
    lenB := by omega
    lenG := hlB.symm
    fineB := ⟨by rw [hsoB]; exact hcB, by rw [hsoB]; exact sep_R hsB.1 (fun e he => (hmB e he).2.1), by rw [grown_add, htB, hGT, hTs]; omega, fun e he => hmB e he⟩
    fineG := ⟨by rw [hsoG]; rw [bts_len] at hcG; exact hcG, by rw [hsoG]; exact sep_R hsG (fun e he => (hmG e he).2.1), by rw [grown_add, hGT]; omega, fun e he => by have := hmG e he; rw [bts_len] at this; exact this⟩
    back := by
      rw [hLB, hbT, hund]; rfl
    again := by rw [grp_self _ hsB.1, hbT, hinv]
    forth := by rw [hGA, bts_mk]
    sep := hsB.1
    goodB := fun e he => by
      have h1 := hmB e he
      have h2 := hxB e he
      rw [bts_len] at h2
      exact ⟨by omega, by omega, by omega⟩
    smallB := fun e he => by have h2 := hxB e he; rw [bts_len] at h2; omega
    smallG := fun e he => by have := hgg e he; omega
    move := fun k hk => by
      have := hmv k hk
      rw [mv_grp l hc hk, Int.add_zero, Int.add_zero] at this
      exact this }
end Go.Proofs.Ytjmoeahlbgdkbaa
