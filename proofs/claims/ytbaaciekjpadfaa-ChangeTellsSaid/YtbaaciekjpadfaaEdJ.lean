/- Contract of the law's apart: edits that rise and stay apart, as hints tell. Condition: a short text. -/
import Derived.Test.YtbaaciekjpadfaaEdI
import Derived.Test.YtbaaciekjpadfaaEdArgs
namespace Go.Proofs.Ytbaaciekjpadfaa
open Go.ChangeShapes Go.WideShapes Go.ChangeAt Go.RowKit
open SpanM EdM
attribute [local go_sem ↓] Go.wp_at_zero Go.wp_at_succ
attribute [local go_sem] later_cell later_frozen
def sizes (l : List Ed) : Nat := (l.map (fun e => e.2.size)).foldr (· + ·) 0
theorem sizes_snoc (l : List Ed) (e : Ed) : sizes (l ++ [e]) = sizes l + e.2.size := by
  induction l with
  | nil => simp [sizes]
  | cons a r ih => unfold sizes at *; simp only [List.cons_append, List.map_cons, List.foldr_cons] at *; omega
/-- Edits that rise and stay apart. -/
structure AP (n : Int) (l : List Ed) : Prop where
  chain : Chain n 0 l
  rise : l.Pairwise fun a b => a.1.1 < b.1.1
  sizes : sizes l ≤ 200
  len : l.length ≤ 20
theorem chain_up {l : List Ed} : ∀ {a m n : Int}, Chain m a l → m ≤ n → Chain n a l := by
  induction l with
  | nil => intro a m n h1 h2; unfold Chain at *; omega
  | cons x r ih => intro a m n h1 h2; exact ⟨h1.1, h1.2.1, ih h1.2.2 h2⟩
/-- What a round of apart's loop keeps. -/
def AInv (n : Int) (P : List Ed) (w : World) (es a lf i : Value) (wr : World) : Prop :=
  ∃ (k m : Nat) (at' left : Int) (l : List Ed), i = .int .i64 k ∧ k ≤ P.length ∧ k ≤ 20 ∧ a = .int .i64 at' ∧ lf = .int .i64 left ∧ m ≤ k ∧ Hid (l.length = m) ∧ 0 ≤ at' ∧ at' ≤ n ∧ 0 ≤ left ∧ left ≤ 200 ∧
    Hid (Chain at' 0 l ∧ (l.Pairwise fun a b => a.1.1 < b.1.1) ∧ (sizes l : Int) + left = 200) ∧ wr.ownsRow w.heap.size 45 3 es m (flatE l) ∧ Below w.heap.size w wr
def ApartPost (n : Int) (w : World) (e : Ending) (w' : World) : Prop := ∃ v' l, e = .returned v' ∧ AP n l ∧ Below w.heap.size w w' ∧ w'.ownsRow w.heap.size 45 3 v' l.length (flatE l)
set_option maxRecDepth 100000 in
set_option maxHeartbeats 16000000 in
theorem apart6_any (n : Int) (v : Value) (P : List Ed) (w : World) (h : EdAt w v P) (hn : 0 ≤ n ∧ n ≤ 1000) (hP : P.length ≤ maxLen) :
    Calls Try.prog 24 #[.int .i64 n, v] w (ApartPost n w) := by
  obtain ⟨i0, hi0, hz0', hz1, hz2⟩ := info_parts info_ed
  obtain ⟨aP, cP, rfl⟩ := edat_len h
  have H := hide h
  obtain ⟨hn0, hn1⟩ := hn
  unfold maxLen at hP
  clear h
  go_enter Try.func24, Try.ntmps24
  go_wp2
  go_loopw [5, 6, 7, 8] (fun es a lf i wr => AInv n P w es a lf i wr) (fun _ _ _ i _ => 20 - (intOf i).toNat)
  case atStart => exact ⟨0, 0, 0, 200, [], rfl, Nat.zero_le _, Nat.zero_le _, rfl, rfl, Nat.le_refl _, hide rfl, Int.le_refl _, hn0, by omega, by omega, hide ⟨Int.le_refl _, .nil, rfl⟩, ⟨rfl, .inl ⟨rfl, rfl⟩⟩, bl_refl w⟩
  case round =>
    obtain ⟨k, m, at', left, l, rfl, hk, hk20, rfl, rfl, hmk, HM, hat0, hatn, hl0, hl200, HC, hrow, hbl⟩ := hrel
    by_cases hlt : k < P.length ∧ k < 20
    · obtain ⟨hlt, hlt20⟩ := hlt
      obtain ⟨b1', o1, c1', hv1, hc1, hm1, hlb1, hcell1⟩ := edat_some (edat_below H.out hbl) (by omega)
      injection hv1 with hv1 _ hv1c
      subst hv1 hv1c
      unfold maxLen at hm1
      obtain ⟨x1, x2, x3⟩ := hcell1 k hlt
      have hd1 : decide ((k : Int) < (P.length : Int)) = true := by simp; omega
      have hd2 : decide ((k : Int) < 20) = true := by simp; omega
      clear hcell1
      generalize P[k] = p0 at *
      obtain ⟨⟨pg, pl⟩, px⟩ := p0
      replace x1 : wr.cell? ⟨b1', o1 + k * 3, none⟩ = some (.int .i64 pg) := x1
      replace x2 : wr.cell? ⟨b1', o1 + k * 3 + 1, none⟩ = some (.int .i64 pl) := x2
      replace x3 : wr.cell? ⟨b1', o1 + k * 3 + 2, none⟩ = some (.string px) := x3
      have hg := lowN_lt pg 5 (by omega)
      have hq := lowN_lt pl 5 (by omega)
      have hLG := fun W => low_any pg 5 W (by omega) (by omega)
      have hLL := fun W => low_any pl 5 W (by omega) (by omega)
      generalize lowN pg 5 = lg at *
      generalize lowN pl 5 = ll at *
      have HLG := hide hLG
      have HLL := hide hLL
      obtain ⟨f, hf⟩ : ∃ f, at' + (lg : Int) = f := ⟨_, rfl⟩
      obtain ⟨t, ht⟩ : ∃ t, f + (ll : Int) = t := ⟨_, rfl⟩
      have hw1 : IntKind.i64.wrap (at' + (lg : Int)) = f := by rw [IntWalk.i64_in _ (by omega)]; exact hf
      have hw2 : IntKind.i64.wrap (f + (ll : Int)) = t := by rw [IntWalk.i64_in _ (by omega)]; exact ht
      have hf0 : at' ≤ f := by omega
      have hft : f ≤ t := by omega
      have ht2 : t ≤ 2000 := by omega
      have HF := hide hf
      have HT := hide ht
      clear hLG hLL hg hq
      obtain ⟨aV, cV, rfl⟩ := own_slice hrow
      have hstay : ∀ W, Below w.heap.size w W → W.ownsRow w.heap.size 45 3 (.slice aV m cV) m (flatE l) → AInv n P w (.slice aV m cV) (.int .i64 at') (.int .i64 left) (.int .i64 ((k : Int) + 1)) W := fun W hb ho =>
        ⟨k + 1, m, at', left, l, by go_num, by omega, by omega, rfl, rfl, by omega, HM, hat0, hatn, hl0, hl200, HC, ho, hb⟩
      have hgo : (m = 0 ∨ ∃ b g, l = b ++ [g] ∧ g.1.1 ≠ f) → t ≤ n → (px.size : Int) ≤ left → ∀ (v' : Value) (W : World), Below w.heap.size w W → W.ownsRow w.heap.size 45 3 v' (m + 1) (flatE l ++ [.int .i64 f, .int .i64 t, .string px]) →
          AInv n P w v' (.int .i64 t) (.int .i64 (left - (px.size : Int))) (.int .i64 ((k : Int) + 1)) W := by
        intro hh htn hle v' W hb ho
        obtain ⟨h1, h2, h3⟩ := HC.out
        refine ⟨k + 1, m + 1, t, left - (px.size : Int), l ++ [((f, t), px)], by go_num, by omega, by omega, rfl, rfl, by omega, hide (by simp [HM.out]), by omega, htn, by omega, by omega, hide ⟨?_, ?_, ?_⟩, by rw [flatE_app]; exact ho, hb⟩
        · rw [chain_snoc]
          exact ⟨chain_up h1 hf0, hft, Int.le_refl _⟩
        · refine List.pairwise_append.2 ⟨h2, List.pairwise_singleton _ _, fun x hx y hy => ?_⟩
          rw [List.mem_singleton] at hy
          subst hy
          show x.1.1 < f
          rcases hh with h0 | ⟨b, g, hbg, hne⟩
          · have : l = [] := List.eq_nil_of_length_eq_zero (by rw [HM.out]; exact h0)
            subst this; simp at hx
          · subst hbg
            have hgm := chain_mem h1 g (by simp)
            obtain ⟨_, _, p3⟩ := List.pairwise_append.1 h2
            rcases List.mem_append.1 hx with hx | hx
            · have := p3 x hx g (by simp); omega
            · rw [List.mem_singleton] at hx; subst hx; omega
        · rw [sizes_snoc]
          show ((sizes l + px.size : Nat) : Int) + (left - (px.size : Int)) = 200
          omega
      have HSTAY := hide hstay
      have HGO := hide hgo
      clear hstay hgo hf ht
      have hbs := hbl.size
      have hm1000 : m ≤ 1000 := by omega
      by_cases hA : n < t
      · have HR := hide hrow
        clear HGO hrow HF HT
        go_wp2_with fail
        refine (HLG.out _).mono ?_
        rintro e w8 ⟨rfl, rfl⟩
        go_wp2_with fail
        refine (HLL.out _).mono ?_
        rintro e w9 ⟨rfl, rfl⟩
        go_wp2
        refine ⟨?_, by first | (simp [intOf]; done) | (simp [intOf]; omega)⟩
        exact HSTAY.out _ hbl HR.out
      · have hAd : decide (n < t) = false := by simp; omega
        by_cases hB : left < (px.size : Int)
        · have HR := hide hrow
          clear HGO hrow HF HT hA
          go_wp2_with fail
          refine (HLG.out _).mono ?_
          rintro e w8 ⟨rfl, rfl⟩
          go_wp2_with fail
          refine (HLL.out _).mono ?_
          rintro e w9 ⟨rfl, rfl⟩
          go_wp2
          refine ⟨?_, by first | (simp [intOf]; done) | (simp [intOf]; omega)⟩
          exact HSTAY.out _ hbl HR.out
        · have hBd : decide (left < (px.size : Int)) = false := by simp; omega
          have hw3 : IntKind.i64.wrap (left - (px.size : Int)) = left - (px.size : Int) := IntWalk.i64_in _ (by omega)
          rcases Nat.eq_zero_or_pos m with hm0 | hm0
          · have hmd : decide (0 < m) = false := by simp; omega
            have HGO2 := hide (HGO.out (.inl hm0) (by omega) (by omega))
            clear HGO HSTAY HF HT hA hB hm0
            go_wp2_with fail
            refine (HLG.out _).mono ?_
            rintro e w8 ⟨rfl, rfl⟩
            go_wp2_with fail
            refine (HLL.out _).mono ?_
            rintro e w9 ⟨rfl, rfl⟩
            go_wp2_with (at_builtin; (refine wpList_push wr rfl _ _ 22 rfl w.heap.size 45 i0 (.agg #[.int .i64 0, .int .i64 0, .string ⟨#[]⟩]) 3 32 Try.underlying22 hi0 hz0' hz1 hz2 rfl (by decide) (.slice aV m cV) m (flatE l) rfl hrow 1 #[.int .i64 f, .int .i64 t, .string px] rfl rfl (by simp [Value.oneCell']) (by omega) (by decide) (by omega) ?_); intro v' w4 hv4 hg4 hat)
            have hb4 : Below w.heap.size w w4 := bl_own hbl hrow hg4 (Nat.le_refl _)
            refine ⟨?_, by first | (simp [intOf]; done) | (simp [intOf]; omega)⟩
            exact HGO2.out _ _ hb4 hv4
          · obtain ⟨b, g, hbg⟩ : ∃ b g, l = b ++ [g] := by
              rcases List.eq_nil_or_concat l with h0 | ⟨b, g, h0⟩
              · have := HM.out; rw [h0] at this; simp at this; omega
              · exact ⟨b, g, by rw [h0, List.concat_eq_append]⟩
            have hbl' : b.length + 1 = m := by have := HM.out; rw [hbg] at this; simpa using this
            have hat2 := flatE_at l b.length (by rw [hbg]; simp)
            have hget : l[b.length]'(by rw [hbg]; simp) = g := by simp [hbg]
            rw [hget] at hat2
            rcases own_form hrow with ⟨_, h1, _⟩ | ⟨gg, cg, hvv, hg1, hg2, hg3, hg4, hg5⟩
            · omega
            injection hvv with hq1 _ hq2
            subst hq1 hq2
            have z1 := hg5 _ _ hat2.1
            unfold maxLen at hg4
            obtain ⟨mm, rfl⟩ : ∃ mm, m = mm + 1 := ⟨m - 1, by omega⟩
            obtain rfl : b.length = mm := by omega
            obtain ⟨gf, hgf⟩ : ∃ gf, g.1.1 = gf := ⟨_, rfl⟩
            rw [hgf] at z1
            have hmd : decide (0 < b.length + 1) = true := by simp
            have hmd2 : decide ((0 : Int) < (b.length : Int) + 1) = true := by first | (simp; done) | (simp; omega)
            have hlast : IntKind.i64.wrap (((b.length : Int) + 1) - 1) = (b.length : Int) := by rw [IntWalk.i64_in _ (by omega)]; omega
            clear hat2 hget hg5
            by_cases hE : f = gf
            · have hEd : (f == gf) = true := by simp [hE]
              have HR := hide hrow
              clear HGO hrow HF HT hA hB hE hm0
              go_wp2_with fail
              refine (HLG.out _).mono ?_
              rintro e w8 ⟨rfl, rfl⟩
              go_wp2_with fail
              refine (HLL.out _).mono ?_
              rintro e w9 ⟨rfl, rfl⟩
              go_wp2
              refine ⟨?_, by first | (simp [intOf]; done) | (simp [intOf]; omega)⟩
              exact HSTAY.out _ hbl HR.out
            · have hEd : (f == gf) = false := by simp [hE]
              have HGO2 := hide (HGO.out (.inr ⟨b, g, hbg, by rw [hgf]; exact Ne.symm hE⟩) (by omega) (by omega))
              clear HGO HSTAY HF HT hA hB hE hm0
              go_wp2_with fail
              refine (HLG.out _).mono ?_
              rintro e w8 ⟨rfl, rfl⟩
              go_wp2_with fail
              refine (HLL.out _).mono ?_
              rintro e w9 ⟨rfl, rfl⟩
              go_wp2_with (at_builtin; (refine wpList_push wr rfl _ _ 22 rfl w.heap.size 45 i0 (.agg #[.int .i64 0, .int .i64 0, .string ⟨#[]⟩]) 3 32 Try.underlying22 hi0 hz0' hz1 hz2 rfl (by decide) (.slice (some ⟨gg, 0, none⟩) (b.length + 1) cV) (b.length + 1) (flatE l) rfl hrow 1 #[.int .i64 f, .int .i64 t, .string px] rfl rfl (by simp [Value.oneCell']) (by omega) (by decide) (by omega) ?_); intro v' w4 hv4 hg4 hat)
              have hb4 : Below w.heap.size w w4 := bl_own hbl hrow hg4 (Nat.le_refl _)
              refine ⟨?_, by first | (simp [intOf]; done) | (simp [intOf]; omega)⟩
              exact HGO2.out _ _ hb4 hv4
    · have hd : (decide (k < P.length) = false) ∨ (decide (k < P.length) = true ∧ decide ((k : Int) < 20) = false) := by
        by_cases h1 : k < P.length
        · exact .inr ⟨by simp; omega, by simp; omega⟩
        · exact .inl (by simp; omega)
      obtain ⟨h1, h2, h3⟩ := HC.out
      have hap : AP n l := ⟨chain_up h1 hatn, h2, by omega, by rw [HM.out]; omega⟩
      have hmm := HM.out
      subst hmm
      have HAP := hide hap
      have HR := hide hrow
      clear hap hrow h1 h2 h3 HC hlt
      rcases hd with hd1 | ⟨hd1, hd2⟩
      all_goals
        go_wp2
        go_ret
        exact ⟨_, l, rfl, HAP.out, hbl, HR.out⟩
end Go.Proofs.Ytbaaciekjpadfaa
