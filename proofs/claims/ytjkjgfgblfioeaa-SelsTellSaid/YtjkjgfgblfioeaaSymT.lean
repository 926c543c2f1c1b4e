/- Contracts: the library's stable sort of 21 to 79 selections: blocks of 20 put in order, then merged. Condition: fewer than 80. -/
import Derived.Test.YtjkjgfgblfioeaaSymH
import Derived.Test.YtjkjgfgblfioeaaSymS
namespace Go.Proofs.Ytjkjgfgblfioeaa
open Go.ChangeShapes Go.WideShapes Go.ChangeAt Go.RowKit
open SpanM SelM
abbrev Up (l : List (Sp × Nat)) : Prop := l.Pairwise fun a b => a.2 < b.2
abbrev RowT (w : World) (g base n c : Nat) (L : List (Sp × Nat)) : Prop := w.ownsRow base 38 2 (.slice (some ⟨g, 0, none⟩) n c) n (flat (vals L))
theorem up_app {A B : List (Sp × Nat)} (h : Up (A ++ B)) : Up A ∧ Up B ∧ Ahead A B := List.pairwise_append.1 h
theorem ahead_of {A A' B B' : List (Sp × Nat)} (p : A.Perm A') (q : B.Perm B') (h : Ahead A' B') : Ahead A B := fun x hx y hy => h x (p.mem_iff.1 hx) y (q.mem_iff.1 hy)
open Go.Sort in
theorem insT_any (g c base n : Nat) (P X R : List (Sp × Nat)) (a b : Nat) (w : World) (h : RowT w g base n c (P ++ (X ++ R))) (hn : P.length + X.length + R.length = n) (hl : n ≤ 1000) (ha : a = P.length) (hb : b = P.length + X.length) (hu : Up X) :
    Calls Try.prog 46 #[.slice (some ⟨g, 0, none⟩) n c, .int .i64 a, .int .i64 b, .func (.func 27) #[] #[]] w fun e w' =>
      e = .returned (.tuple #[]) ∧ w.grownBy w' (some g) ∧ ∃ Y, Y.Perm X ∧ TS lessL Y ∧ RowT w' g base n c (P ++ (Y ++ R)) := by
  have hL : (vals (P ++ (X ++ R))).length = n := by rw [vals_len]; simp only [List.length_append]; omega
  have hc := insL_any g c base (vals (P ++ (X ++ R))) a b w (by rw [hL]; exact h) (by omega) (by omega) (by omega)
  rw [hL] at hc
  refine hc.mono ?_
  rintro e w' ⟨he, hg, ho⟩
  refine ⟨he, hg, sortT X, (sortT_ts X hu).1, (sortT_ts X hu).2, ?_⟩
  refine ho _ ?_ (by rw [vals_len]; simp only [List.length_append, (sortT_ts X hu).1.length_eq]; omega)
  have := insertionP (vals P) (vals X) (vals R)
  simp only [vals_app, vals_sortT]
  rw [ha, hb]
  simpa only [vals_len] using this
theorem symT_any (g c base n : Nat) (P A B S : List (Sp × Nat)) (a m b : Nat) (w : World) (h : RowT w g base n c (P ++ (A ++ (B ++ S)))) (hn : P.length + A.length + B.length + S.length = n) (hl : n ≤ 1000) (hA : 0 < A.length) (hB : 0 < B.length) (tA : TS lessL A) (tB : TS lessL B) (hAB : Ahead A B) (ha : a = P.length) (hm : m = P.length + A.length) (hb : b = P.length + A.length + B.length) :
    Calls Try.prog 47 #[.slice (some ⟨g, 0, none⟩) n c, .int .i64 a, .int .i64 m, .int .i64 b, .func (.func 27) #[] #[]] w (SymPost w g base n c P A B S) :=
  sym_ok g c base n hl (n + 1) P A B S a m b w (by omega) hA hB tA tB hAB h hn ha hm hb
theorem cutT (T : List (Sp × Nat)) (k : Nat) (hk : k ≤ T.length) : ∃ A B, T = A ++ B ∧ A.length = k ∧ B.length = T.length - k :=
  ⟨T.take k, T.drop k, (List.take_append_drop k T).symm, by simp; omega, by simp⟩
set_option maxRecDepth 100000 in
set_option maxHeartbeats 8000000 in
theorem st2_any (g c base : Nat) (n : Nat) (X1 X2 : List (Sp × Nat)) (w : World) (h : RowT w g base n c (X1 ++ (X2))) (hlX1 : X1.length = 20) (hlX2 : X2.length = n - 20) (hlo : 20 < n) (hhi : n < 40) (hu : Up (X1 ++ (X2))) :
    Calls Try.prog 41 #[.slice (some ⟨g, 0, none⟩) n c, .int .i64 n, .func (.func 27) #[] #[]] w fun e w' =>
      e = .returned (.tuple #[]) ∧ w.grownBy w' (some g) ∧ ∃ T, T.Perm (X1 ++ (X2)) ∧ TS lessL T ∧ RowT w' g base n c T := by
  have hu1 := hu
  obtain ⟨huX1, hu2, ha1⟩ := up_app hu1
  have HUX1 := hide huX1
  have HUX2 := hide hu2
  have HLX1 := hide hlX1
  have HLX2 := hide hlX2
  have HN := hide (show 20 < n ∧ n < 40 from ⟨hlo, hhi⟩)
  have HAX1_X2 := hide (show Ahead X1 X2 from (by
    intro x hx y hy
    exact ha1 x hx y hy))
  have d20 : decide ((20 : Int) ≤ (n : Int)) = true := by simp; omega
  have e20 : decide ((20 : Int) < (n : Int)) = true := by simp; omega
  have d40 : decide ((40 : Int) ≤ (n : Int)) = false := by simp; omega
  have e40 : decide ((40 : Int) < (n : Int)) = false := by simp; omega
  have d60 : decide ((60 : Int) ≤ (n : Int)) = false := by simp; omega
  have e60 : decide ((60 : Int) < (n : Int)) = false := by simp; omega
  have d80 : decide ((80 : Int) ≤ (n : Int)) = false := by simp; omega
  have e80 : decide ((80 : Int) < (n : Int)) = false := by simp; omega
  have HR0 := hide h
  clear h hu1 hlX1 hlX2 ha1 huX1 hlo hhi hu2 hu
  go_enter Try.func41, Try.ntmps41
  go_wp2
  refine wp_loop_rounds 2 ?_
  rw [rounds_succ]
  go_wp2_with fail
  refine (insT_any g c base n ([] : List (Sp × Nat)) X1 X2 0 20 _ (by simpa using HR0.out) (by have := HN.out; have := HLX1.out; have := HLX2.out; first | (simp; omega) | (simp; done) | omega) (by have := HN.out; have := HLX1.out; have := HLX2.out; first | (simp; omega) | (simp; done) | omega) (by have := HN.out; have := HLX1.out; have := HLX2.out; first | (simp; omega) | (simp; done) | omega) (by have := HN.out; have := HLX1.out; have := HLX2.out; first | (simp; omega) | (simp; done) | omega) HUX1.out).mono ?_
  rintro e w1 ⟨rfl, hg, Y1, hp, ht, ho⟩
  have HPY1 := hide hp
  have HTY1 := hide ht
  have HLY1 := hide (hp.length_eq.trans HLX1.out)
  have HR1 := hide (show RowT w1 g base n c (Y1 ++ (X2)) by simpa using ho)
  have HG1 := hide (hg)
  clear hp ho hg ht
  go_wp2
  rw [rounds_succ]
  go_wp2_with fail
  refine (insT_any g c base n Y1 X2 ([] : List (Sp × Nat)) 20 n _ (by simpa using HR1.out) (by have := HN.out; have := HLY1.out; have := HLX2.out; first | (simp; omega) | (simp; done) | omega) (by have := HN.out; have := HLY1.out; have := HLX2.out; first | (simp; omega) | (simp; done) | omega) (by have := HN.out; have := HLY1.out; have := HLX2.out; first | (simp; omega) | (simp; done) | omega) (by have := HN.out; have := HLY1.out; have := HLX2.out; first | (simp; omega) | (simp; done) | omega) HUX2.out).mono ?_
  rintro e w2 ⟨rfl, hg, Y2, hp, ht, ho⟩
  have HPY2 := hide hp
  have HTY2 := hide ht
  have HLY2 := hide (hp.length_eq.trans HLX2.out)
  have HR2 := hide (show RowT w2 g base n c (Y1 ++ (Y2)) by simpa using ho)
  have HG2 := hide (HG1.out.trans hg)
  clear hp ho hg ht
  go_wp2
  refine wp_loop_rounds 2 ?_
  rw [rounds_succ]
  go_wp2
  refine wp_loop_rounds 1 ?_
  rw [rounds_succ]
  go_wp2_with fail
  refine (symT_any g c base n ([] : List (Sp × Nat)) Y1 Y2 ([] : List (Sp × Nat)) 0 20 n _ (by simpa using HR2.out) (by have := HN.out; have := HLY1.out; have := HLY2.out; first | (simp; omega) | (simp; done) | omega) (by have := HN.out; have := HLY1.out; have := HLY2.out; first | (simp; omega) | (simp; done) | omega) (by have := HN.out; have := HLY1.out; have := HLY2.out; first | (simp; omega) | (simp; done) | omega) (by have := HN.out; have := HLY1.out; have := HLY2.out; first | (simp; omega) | (simp; done) | omega) HTY1.out HTY2.out (ahead_of HPY1.out HPY2.out HAX1_X2.out) (by have := HN.out; have := HLY1.out; have := HLY2.out; first | (simp; omega) | (simp; done) | omega) (by have := HN.out; have := HLY1.out; have := HLY2.out; first | (simp; omega) | (simp; done) | omega) (by have := HN.out; have := HLY1.out; have := HLY2.out; first | (simp; omega) | (simp; done) | omega)).mono ?_
  rintro e w3 ⟨rfl, hg, Y3, hp, ht, ho⟩
  have HLY3 := hide (show Y3.length = _ from hp.length_eq.trans (List.length_append.trans (congr (congrArg HAdd.hAdd HLY1.out) HLY2.out)))
  have HPY3 := hide (hp.trans (HPY1.out.append HPY2.out))
  have HTY3 := hide ht
  have HR3 := hide (show RowT w3 g base n c Y3 by simpa using ho)
  have HG3 := hide (HG2.out.trans hg)
  clear hp ho hg ht
  go_wp2
  rw [rounds_succ]
  go_wp2
  go_end0
  refine ⟨rfl, HG3.out, Y3, ?_, HTY3.out, HR3.out⟩
  simpa using HPY3.out
set_option maxRecDepth 100000 in
set_option maxHeartbeats 8000000 in
theorem st2e_any (g c base : Nat) (X1 X2 : List (Sp × Nat)) (w : World) (h : RowT w g base 40 c (X1 ++ (X2))) (hlX1 : X1.length = 20) (hlX2 : X2.length = 20) (hu : Up (X1 ++ (X2))) :
    Calls Try.prog 41 #[.slice (some ⟨g, 0, none⟩) 40 c, .int .i64 40, .func (.func 27) #[] #[]] w fun e w' =>
      e = .returned (.tuple #[]) ∧ w.grownBy w' (some g) ∧ ∃ T, T.Perm (X1 ++ (X2)) ∧ TS lessL T ∧ RowT w' g base 40 c T := by
  have hu1 := hu
  obtain ⟨huX1, hu2, ha1⟩ := up_app hu1
  have HUX1 := hide huX1
  have HUX2 := hide hu2
  have HLX1 := hide hlX1
  have HLX2 := hide hlX2
  have HN := hide trivial
  have HAX1_X2 := hide (show Ahead X1 X2 from (by
    intro x hx y hy
    exact ha1 x hx y hy))
  have HR0 := hide h
  clear h hu1 hlX1 hlX2 ha1 huX1 hu2 hu
  go_enter Try.func41, Try.ntmps41
  go_wp2
  refine wp_loop_rounds 3 ?_
  rw [rounds_succ]
  go_wp2_with fail
  refine (insT_any g c base 40 ([] : List (Sp × Nat)) X1 X2 0 20 _ (by simpa using HR0.out) (by have := HN.out; have := HLX1.out; have := HLX2.out; first | (simp; omega) | (simp; done) | omega) (by have := HN.out; have := HLX1.out; have := HLX2.out; first | (simp; omega) | (simp; done) | omega) (by have := HN.out; have := HLX1.out; have := HLX2.out; first | (simp; omega) | (simp; done) | omega) (by have := HN.out; have := HLX1.out; have := HLX2.out; first | (simp; omega) | (simp; done) | omega) HUX1.out).mono ?_
  rintro e w1 ⟨rfl, hg, Y1, hp, ht, ho⟩
  have HPY1 := hide hp
  have HTY1 := hide ht
  have HLY1 := hide (hp.length_eq.trans HLX1.out)
  have HR1 := hide (show RowT w1 g base 40 c (Y1 ++ (X2)) by simpa using ho)
  have HG1 := hide (hg)
  clear hp ho hg ht
  go_wp2
  rw [rounds_succ]
  go_wp2_with fail
  refine (insT_any g c base 40 Y1 X2 ([] : List (Sp × Nat)) 20 40 _ (by simpa using HR1.out) (by have := HN.out; have := HLY1.out; have := HLX2.out; first | (simp; omega) | (simp; done) | omega) (by have := HN.out; have := HLY1.out; have := HLX2.out; first | (simp; omega) | (simp; done) | omega) (by have := HN.out; have := HLY1.out; have := HLX2.out; first | (simp; omega) | (simp; done) | omega) (by have := HN.out; have := HLY1.out; have := HLX2.out; first | (simp; omega) | (simp; done) | omega) HUX2.out).mono ?_
  rintro e w2 ⟨rfl, hg, Y2, hp, ht, ho⟩
  have HPY2 := hide hp
  have HTY2 := hide ht
  have HLY2 := hide (hp.length_eq.trans HLX2.out)
  have HR2 := hide (show RowT w2 g base 40 c (Y1 ++ (Y2)) by simpa using ho)
  have HG2 := hide (HG1.out.trans hg)
  clear hp ho hg ht
  go_wp2
  rw [rounds_succ]
  go_wp2_with fail
  refine (insT_any g c base 40 (Y1 ++ (Y2)) ([] : List (Sp × Nat)) ([] : List (Sp × Nat)) 40 40 _ (by simpa using HR2.out) (by have := HN.out; have := HLY1.out; have := HLY2.out; first | (simp; omega) | (simp; done) | omega) (by have := HN.out; have := HLY1.out; have := HLY2.out; first | (simp; omega) | (simp; done) | omega) (by have := HN.out; have := HLY1.out; have := HLY2.out; first | (simp; omega) | (simp; done) | omega) (by have := HN.out; have := HLY1.out; have := HLY2.out; first | (simp; omega) | (simp; done) | omega) .nil).mono ?_
  rintro e w3 ⟨rfl, hg, Y3, hp, ht, ho⟩
  obtain rfl : Y3 = [] := hp.eq_nil
  have HR3 := hide (show RowT w3 g base 40 c (Y1 ++ (Y2)) by simpa using ho)
  have HG3 := hide (HG2.out.trans hg)
  clear hp ho hg ht
  go_wp2
  refine wp_loop_rounds 2 ?_
  rw [rounds_succ]
  go_wp2
  refine wp_loop_rounds 2 ?_
  rw [rounds_succ]
  go_wp2_with fail
  refine (symT_any g c base 40 ([] : List (Sp × Nat)) Y1 Y2 ([] : List (Sp × Nat)) 0 20 40 _ (by simpa using HR3.out) (by have := HN.out; have := HLY1.out; have := HLY2.out; first | (simp; omega) | (simp; done) | omega) (by have := HN.out; have := HLY1.out; have := HLY2.out; first | (simp; omega) | (simp; done) | omega) (by have := HN.out; have := HLY1.out; have := HLY2.out; first | (simp; omega) | (simp; done) | omega) (by have := HN.out; have := HLY1.out; have := HLY2.out; first | (simp; omega) | (simp; done) | omega) HTY1.out HTY2.out (ahead_of HPY1.out HPY2.out HAX1_X2.out) (by have := HN.out; have := HLY1.out; have := HLY2.out; first | (simp; omega) | (simp; done) | omega) (by have := HN.out; have := HLY1.out; have := HLY2.out; first | (simp; omega) | (simp; done) | omega) (by have := HN.out; have := HLY1.out; have := HLY2.out; first | (simp; omega) | (simp; done) | omega)).mono ?_
  rintro e w4 ⟨rfl, hg, Y4, hp, ht, ho⟩
  have HLY4 := hide (show Y4.length = _ from hp.length_eq.trans (List.length_append.trans (congr (congrArg HAdd.hAdd HLY1.out) HLY2.out)))
  have HPY4 := hide (hp.trans (HPY1.out.append HPY2.out))
  have HTY4 := hide ht
  have HR4 := hide (show RowT w4 g base 40 c Y4 by simpa using ho)
  have HG4 := hide (HG3.out.trans hg)
  clear hp ho hg ht
  go_wp2
  rw [rounds_succ]
  go_wp2
  rw [rounds_succ]
  go_wp2
  go_end0
  refine ⟨rfl, HG4.out, Y4, ?_, HTY4.out, HR4.out⟩
  simpa using HPY4.out
set_option maxRecDepth 100000 in
set_option maxHeartbeats 8000000 in
theorem st3_any (g c base : Nat) (n : Nat) (X1 X2 X3 : List (Sp × Nat)) (w : World) (h : RowT w g base n c (X1 ++ (X2 ++ (X3)))) (hlX1 : X1.length = 20) (hlX2 : X2.length = 20) (hlX3 : X3.length = n - 40) (hlo : 40 < n) (hhi : n < 60) (hu : Up (X1 ++ (X2 ++ (X3)))) :
    Calls Try.prog 41 #[.slice (some ⟨g, 0, none⟩) n c, .int .i64 n, .func (.func 27) #[] #[]] w fun e w' =>
      e = .returned (.tuple #[]) ∧ w.grownBy w' (some g) ∧ ∃ T, T.Perm (X1 ++ (X2 ++ (X3))) ∧ TS lessL T ∧ RowT w' g base n c T := by
  have hu1 := hu
  obtain ⟨huX1, hu2, ha1⟩ := up_app hu1
  have HUX1 := hide huX1
  obtain ⟨huX2, hu3, ha2⟩ := up_app hu2
  have HUX2 := hide huX2
  have HUX3 := hide hu3
  have HLX1 := hide hlX1
  have HLX2 := hide hlX2
  have HLX3 := hide hlX3
  have HN := hide (show 40 < n ∧ n < 60 from ⟨hlo, hhi⟩)
  have HAX1_X2 := hide (show Ahead X1 X2 from (by
    intro x hx y hy
    exact ha1 x hx y (List.mem_append_left _ hy)))
  have HAX1X2_X3 := hide (show Ahead (X1 ++ (X2)) X3 from (by
    intro x hx y hy
    rcases List.mem_append.1 hx with hx | hx
    · exact ha1 x hx y (List.mem_append_right _ hy)
    · exact ha2 x hx y hy))
  have d20 : decide ((20 : Int) ≤ (n : Int)) = true := by simp; omega
  have e20 : decide ((20 : Int) < (n : Int)) = true := by simp; omega
  have d40 : decide ((40 : Int) ≤ (n : Int)) = true := by simp; omega
  have e40 : decide ((40 : Int) < (n : Int)) = true := by simp; omega
  have d60 : decide ((60 : Int) ≤ (n : Int)) = false := by simp; omega
  have e60 : decide ((60 : Int) < (n : Int)) = false := by simp; omega
  have d80 : decide ((80 : Int) ≤ (n : Int)) = false := by simp; omega
  have e80 : decide ((80 : Int) < (n : Int)) = false := by simp; omega
  have HR0 := hide h
  clear h hu1 hlX1 hlX2 hlX3 ha1 huX1 ha2 huX2 hlo hhi hu2 hu3 hu
  go_enter Try.func41, Try.ntmps41
  go_wp2
  refine wp_loop_rounds 3 ?_
  rw [rounds_succ]
  go_wp2_with fail
  refine (insT_any g c base n ([] : List (Sp × Nat)) X1 (X2 ++ (X3)) 0 20 _ (by simpa using HR0.out) (by have := HN.out; have := HLX1.out; have := HLX2.out; have := HLX3.out; first | (simp; omega) | (simp; done) | omega) (by have := HN.out; have := HLX1.out; have := HLX2.out; have := HLX3.out; first | (simp; omega) | (simp; done) | omega) (by have := HN.out; have := HLX1.out; have := HLX2.out; have := HLX3.out; first | (simp; omega) | (simp; done) | omega) (by have := HN.out; have := HLX1.out; have := HLX2.out; have := HLX3.out; first | (simp; omega) | (simp; done) | omega) HUX1.out).mono ?_
  rintro e w1 ⟨rfl, hg, Y1, hp, ht, ho⟩
  have HPY1 := hide hp
  have HTY1 := hide ht
  have HLY1 := hide (hp.length_eq.trans HLX1.out)
  have HR1 := hide (show RowT w1 g base n c (Y1 ++ (X2 ++ (X3))) by simpa using ho)
  have HG1 := hide (hg)
  clear hp ho hg ht
  go_wp2
  rw [rounds_succ]
  go_wp2_with fail
  refine (insT_any g c base n Y1 X2 X3 20 40 _ (by simpa using HR1.out) (by have := HN.out; have := HLY1.out; have := HLX2.out; have := HLX3.out; first | (simp; omega) | (simp; done) | omega) (by have := HN.out; have := HLY1.out; have := HLX2.out; have := HLX3.out; first | (simp; omega) | (simp; done) | omega) (by have := HN.out; have := HLY1.out; have := HLX2.out; have := HLX3.out; first | (simp; omega) | (simp; done) | omega) (by have := HN.out; have := HLY1.out; have := HLX2.out; have := HLX3.out; first | (simp; omega) | (simp; done) | omega) HUX2.out).mono ?_
  rintro e w2 ⟨rfl, hg, Y2, hp, ht, ho⟩
  have HPY2 := hide hp
  have HTY2 := hide ht
  have HLY2 := hide (hp.length_eq.trans HLX2.out)
  have HR2 := hide (show RowT w2 g base n c (Y1 ++ (Y2 ++ (X3))) by simpa using ho)
  have HG2 := hide (HG1.out.trans hg)
  clear hp ho hg ht
  go_wp2
  rw [rounds_succ]
  go_wp2_with fail
  refine (insT_any g c base n (Y1 ++ (Y2)) X3 ([] : List (Sp × Nat)) 40 n _ (by simpa using HR2.out) (by have := HN.out; have := HLY1.out; have := HLY2.out; have := HLX3.out; first | (simp; omega) | (simp; done) | omega) (by have := HN.out; have := HLY1.out; have := HLY2.out; have := HLX3.out; first | (simp; omega) | (simp; done) | omega) (by have := HN.out; have := HLY1.out; have := HLY2.out; have := HLX3.out; first | (simp; omega) | (simp; done) | omega) (by have := HN.out; have := HLY1.out; have := HLY2.out; have := HLX3.out; first | (simp; omega) | (simp; done) | omega) HUX3.out).mono ?_
  rintro e w3 ⟨rfl, hg, Y3, hp, ht, ho⟩
  have HPY3 := hide hp
  have HTY3 := hide ht
  have HLY3 := hide (hp.length_eq.trans HLX3.out)
  have HR3 := hide (show RowT w3 g base n c (Y1 ++ (Y2 ++ (Y3))) by simpa using ho)
  have HG3 := hide (HG2.out.trans hg)
  clear hp ho hg ht
  go_wp2
  refine wp_loop_rounds 3 ?_
  rw [rounds_succ]
  go_wp2
  refine wp_loop_rounds 2 ?_
  rw [rounds_succ]
  go_wp2_with fail
  refine (symT_any g c base n ([] : List (Sp × Nat)) Y1 Y2 Y3 0 20 40 _ (by simpa using HR3.out) (by have := HN.out; have := HLY1.out; have := HLY2.out; have := HLY3.out; first | (simp; omega) | (simp; done) | omega) (by have := HN.out; have := HLY1.out; have := HLY2.out; have := HLY3.out; first | (simp; omega) | (simp; done) | omega) (by have := HN.out; have := HLY1.out; have := HLY2.out; have := HLY3.out; first | (simp; omega) | (simp; done) | omega) (by have := HN.out; have := HLY1.out; have := HLY2.out; have := HLY3.out; first | (simp; omega) | (simp; done) | omega) HTY1.out HTY2.out (ahead_of HPY1.out HPY2.out HAX1_X2.out) (by have := HN.out; have := HLY1.out; have := HLY2.out; have := HLY3.out; first | (simp; omega) | (simp; done) | omega) (by have := HN.out; have := HLY1.out; have := HLY2.out; have := HLY3.out; first | (simp; omega) | (simp; done) | omega) (by have := HN.out; have := HLY1.out; have := HLY2.out; have := HLY3.out; first | (simp; omega) | (simp; done) | omega)).mono ?_
  rintro e w4 ⟨rfl, hg, Y4, hp, ht, ho⟩
  have HLY4 := hide (show Y4.length = _ from hp.length_eq.trans (List.length_append.trans (congr (congrArg HAdd.hAdd HLY1.out) HLY2.out)))
  have HPY4 := hide (hp.trans (HPY1.out.append HPY2.out))
  have HTY4 := hide ht
  have HR4 := hide (show RowT w4 g base n c (Y4 ++ (Y3)) by simpa using ho)
  have HG4 := hide (HG3.out.trans hg)
  clear hp ho hg ht
  go_wp2
  rw [rounds_succ]
  go_wp2
  rw [rounds_succ]
  go_wp2
  refine wp_loop_rounds 1 ?_
  rw [rounds_succ]
  go_wp2_with fail
  refine (symT_any g c base n ([] : List (Sp × Nat)) Y4 Y3 ([] : List (Sp × Nat)) 0 40 n _ (by simpa using HR4.out) (by have := HN.out; have := HLY4.out; have := HLY3.out; first | (simp; omega) | (simp; done) | omega) (by have := HN.out; have := HLY4.out; have := HLY3.out; first | (simp; omega) | (simp; done) | omega) (by have := HN.out; have := HLY4.out; have := HLY3.out; first | (simp; omega) | (simp; done) | omega) (by have := HN.out; have := HLY4.out; have := HLY3.out; first | (simp; omega) | (simp; done) | omega) HTY4.out HTY3.out (ahead_of HPY4.out HPY3.out HAX1X2_X3.out) (by have := HN.out; have := HLY4.out; have := HLY3.out; first | (simp; omega) | (simp; done) | omega) (by have := HN.out; have := HLY4.out; have := HLY3.out; first | (simp; omega) | (simp; done) | omega) (by have := HN.out; have := HLY4.out; have := HLY3.out; first | (simp; omega) | (simp; done) | omega)).mono ?_
  rintro e w5 ⟨rfl, hg, Y5, hp, ht, ho⟩
  have HLY5 := hide (show Y5.length = _ from hp.length_eq.trans (List.length_append.trans (congr (congrArg HAdd.hAdd HLY4.out) HLY3.out)))
  have HPY5 := hide (hp.trans (HPY4.out.append HPY3.out))
  have HTY5 := hide ht
  have HR5 := hide (show RowT w5 g base n c Y5 by simpa using ho)
  have HG5 := hide (HG4.out.trans hg)
  clear hp ho hg ht
  go_wp2
  rw [rounds_succ]
  go_wp2
  go_end0
  refine ⟨rfl, HG5.out, Y5, ?_, HTY5.out, HR5.out⟩
  simpa using HPY5.out
set_option maxRecDepth 100000 in
set_option maxHeartbeats 8000000 in
theorem st3e_any (g c base : Nat) (X1 X2 X3 : List (Sp × Nat)) (w : World) (h : RowT w g base 60 c (X1 ++ (X2 ++ (X3)))) (hlX1 : X1.length = 20) (hlX2 : X2.length = 20) (hlX3 : X3.length = 20) (hu : Up (X1 ++ (X2 ++ (X3)))) :
    Calls Try.prog 41 #[.slice (some ⟨g, 0, none⟩) 60 c, .int .i64 60, .func (.func 27) #[] #[]] w fun e w' =>
      e = .returned (.tuple #[]) ∧ w.grownBy w' (some g) ∧ ∃ T, T.Perm (X1 ++ (X2 ++ (X3))) ∧ TS lessL T ∧ RowT w' g base 60 c T := by
  have hu1 := hu
  obtain ⟨huX1, hu2, ha1⟩ := up_app hu1
  have HUX1 := hide huX1
  obtain ⟨huX2, hu3, ha2⟩ := up_app hu2
  have HUX2 := hide huX2
  have HUX3 := hide hu3
  have HLX1 := hide hlX1
  have HLX2 := hide hlX2
  have HLX3 := hide hlX3
  have HN := hide trivial
  have HAX1_X2 := hide (show Ahead X1 X2 from (by
    intro x hx y hy
    exact ha1 x hx y (List.mem_append_left _ hy)))
  have HAX1X2_X3 := hide (show Ahead (X1 ++ (X2)) X3 from (by
    intro x hx y hy
    rcases List.mem_append.1 hx with hx | hx
    · exact ha1 x hx y (List.mem_append_right _ hy)
    · exact ha2 x hx y hy))
  have HR0 := hide h
  clear h hu1 hlX1 hlX2 hlX3 ha1 huX1 ha2 huX2 hu2 hu3 hu
  go_enter Try.func41, Try.ntmps41
  go_wp2
  refine wp_loop_rounds 4 ?_
  rw [rounds_succ]
  go_wp2_with fail
  refine (insT_any g c base 60 ([] : List (Sp × Nat)) X1 (X2 ++ (X3)) 0 20 _ (by simpa using HR0.out) (by have := HN.out; have := HLX1.out; have := HLX2.out; have := HLX3.out; first | (simp; omega) | (simp; done) | omega) (by have := HN.out; have := HLX1.out; have := HLX2.out; have := HLX3.out; first | (simp; omega) | (simp; done) | omega) (by have := HN.out; have := HLX1.out; have := HLX2.out; have := HLX3.out; first | (simp; omega) | (simp; done) | omega) (by have := HN.out; have := HLX1.out; have := HLX2.out; have := HLX3.out; first | (simp; omega) | (simp; done) | omega) HUX1.out).mono ?_
  rintro e w1 ⟨rfl, hg, Y1, hp, ht, ho⟩
  have HPY1 := hide hp
  have HTY1 := hide ht
  have HLY1 := hide (hp.length_eq.trans HLX1.out)
  have HR1 := hide (show RowT w1 g base 60 c (Y1 ++ (X2 ++ (X3))) by simpa using ho)
  have HG1 := hide (hg)
  clear hp ho hg ht
  go_wp2
  rw [rounds_succ]
  go_wp2_with fail
  refine (insT_any g c base 60 Y1 X2 X3 20 40 _ (by simpa using HR1.out) (by have := HN.out; have := HLY1.out; have := HLX2.out; have := HLX3.out; first | (simp; omega) | (simp; done) | omega) (by have := HN.out; have := HLY1.out; have := HLX2.out; have := HLX3.out; first | (simp; omega) | (simp; done) | omega) (by have := HN.out; have := HLY1.out; have := HLX2.out; have := HLX3.out; first | (simp; omega) | (simp; done) | omega) (by have := HN.out; have := HLY1.out; have := HLX2.out; have := HLX3.out; first | (simp; omega) | (simp; done) | omega) HUX2.out).mono ?_
  rintro e w2 ⟨rfl, hg, Y2, hp, ht, ho⟩
  have HPY2 := hide hp
  have HTY2 := hide ht
  have HLY2 := hide (hp.length_eq.trans HLX2.out)
  have HR2 := hide (show RowT w2 g base 60 c (Y1 ++ (Y2 ++ (X3))) by simpa using ho)
  have HG2 := hide (HG1.out.trans hg)
  clear hp ho hg ht
  go_wp2
  rw [rounds_succ]
  go_wp2_with fail
  refine (insT_any g c base 60 (Y1 ++ (Y2)) X3 ([] : List (Sp × Nat)) 40 60 _ (by simpa using HR2.out) (by have := HN.out; have := HLY1.out; have := HLY2.out; have := HLX3.out; first | (simp; omega) | (simp; done) | omega) (by have := HN.out; have := HLY1.out; have := HLY2.out; have := HLX3.out; first | (simp; omega) | (simp; done) | omega) (by have := HN.out; have := HLY1.out; have := HLY2.out; have := HLX3.out; first | (simp; omega) | (simp; done) | omega) (by have := HN.out; have := HLY1.out; have := HLY2.out; have := HLX3.out; first | (simp; omega) | (simp; done) | omega) HUX3.out).mono ?_
  rintro e w3 ⟨rfl, hg, Y3, hp, ht, ho⟩
  have HPY3 := hide hp
  have HTY3 := hide ht
  have HLY3 := hide (hp.length_eq.trans HLX3.out)
  have HR3 := hide (show RowT w3 g base 60 c (Y1 ++ (Y2 ++ (Y3))) by simpa using ho)
  have HG3 := hide (HG2.out.trans hg)
  clear hp ho hg ht
  go_wp2
  rw [rounds_succ]
  go_wp2_with fail
  refine (insT_any g c base 60 (Y1 ++ (Y2 ++ (Y3))) ([] : List (Sp × Nat)) ([] : List (Sp × Nat)) 60 60 _ (by simpa using HR3.out) (by have := HN.out; have := HLY1.out; have := HLY2.out; have := HLY3.out; first | (simp; omega) | (simp; done) | omega) (by have := HN.out; have := HLY1.out; have := HLY2.out; have := HLY3.out; first | (simp; omega) | (simp; done) | omega) (by have := HN.out; have := HLY1.out; have := HLY2.out; have := HLY3.out; first | (simp; omega) | (simp; done) | omega) (by have := HN.out; have := HLY1.out; have := HLY2.out; have := HLY3.out; first | (simp; omega) | (simp; done) | omega) .nil).mono ?_
  rintro e w4 ⟨rfl, hg, Y4, hp, ht, ho⟩
  obtain rfl : Y4 = [] := hp.eq_nil
  have HR4 := hide (show RowT w4 g base 60 c (Y1 ++ (Y2 ++ (Y3))) by simpa using ho)
  have HG4 := hide (HG3.out.trans hg)
  clear hp ho hg ht
  go_wp2
  refine wp_loop_rounds 3 ?_
  rw [rounds_succ]
  go_wp2
  refine wp_loop_rounds 2 ?_
  rw [rounds_succ]
  go_wp2_with fail
  refine (symT_any g c base 60 ([] : List (Sp × Nat)) Y1 Y2 Y3 0 20 40 _ (by simpa using HR4.out) (by have := HN.out; have := HLY1.out; have := HLY2.out; have := HLY3.out; first | (simp; omega) | (simp; done) | omega) (by have := HN.out; have := HLY1.out; have := HLY2.out; have := HLY3.out; first | (simp; omega) | (simp; done) | omega) (by have := HN.out; have := HLY1.out; have := HLY2.out; have := HLY3.out; first | (simp; omega) | (simp; done) | omega) (by have := HN.out; have := HLY1.out; have := HLY2.out; have := HLY3.out; first | (simp; omega) | (simp; done) | omega) HTY1.out HTY2.out (ahead_of HPY1.out HPY2.out HAX1_X2.out) (by have := HN.out; have := HLY1.out; have := HLY2.out; have := HLY3.out; first | (simp; omega) | (simp; done) | omega) (by have := HN.out; have := HLY1.out; have := HLY2.out; have := HLY3.out; first | (simp; omega) | (simp; done) | omega) (by have := HN.out; have := HLY1.out; have := HLY2.out; have := HLY3.out; first | (simp; omega) | (simp; done) | omega)).mono ?_
  rintro e w5 ⟨rfl, hg, Y5, hp, ht, ho⟩
  have HLY5 := hide (show Y5.length = _ from hp.length_eq.trans (List.length_append.trans (congr (congrArg HAdd.hAdd HLY1.out) HLY2.out)))
  have HPY5 := hide (hp.trans (HPY1.out.append HPY2.out))
  have HTY5 := hide ht
  have HR5 := hide (show RowT w5 g base 60 c (Y5 ++ (Y3)) by simpa using ho)
  have HG5 := hide (HG4.out.trans hg)
  clear hp ho hg ht
  go_wp2
  rw [rounds_succ]
  go_wp2
  rw [rounds_succ]
  go_wp2
  refine wp_loop_rounds 1 ?_
  rw [rounds_succ]
  go_wp2_with fail
  refine (symT_any g c base 60 ([] : List (Sp × Nat)) Y5 Y3 ([] : List (Sp × Nat)) 0 40 60 _ (by simpa using HR5.out) (by have := HN.out; have := HLY5.out; have := HLY3.out; first | (simp; omega) | (simp; done) | omega) (by have := HN.out; have := HLY5.out; have := HLY3.out; first | (simp; omega) | (simp; done) | omega) (by have := HN.out; have := HLY5.out; have := HLY3.out; first | (simp; omega) | (simp; done) | omega) (by have := HN.out; have := HLY5.out; have := HLY3.out; first | (simp; omega) | (simp; done) | omega) HTY5.out HTY3.out (ahead_of HPY5.out HPY3.out HAX1X2_X3.out) (by have := HN.out; have := HLY5.out; have := HLY3.out; first | (simp; omega) | (simp; done) | omega) (by have := HN.out; have := HLY5.out; have := HLY3.out; first | (simp; omega) | (simp; done) | omega) (by have := HN.out; have := HLY5.out; have := HLY3.out; first | (simp; omega) | (simp; done) | omega)).mono ?_
  rintro e w6 ⟨rfl, hg, Y6, hp, ht, ho⟩
  have HLY6 := hide (show Y6.length = _ from hp.length_eq.trans (List.length_append.trans (congr (congrArg HAdd.hAdd HLY5.out) HLY3.out)))
  have HPY6 := hide (hp.trans (HPY5.out.append HPY3.out))
  have HTY6 := hide ht
  have HR6 := hide (show RowT w6 g base 60 c Y6 by simpa using ho)
  have HG6 := hide (HG5.out.trans hg)
  clear hp ho hg ht
  go_wp2
  rw [rounds_succ]
  go_wp2
  go_end0
  refine ⟨rfl, HG6.out, Y6, ?_, HTY6.out, HR6.out⟩
  simpa using HPY6.out
set_option maxRecDepth 100000 in
set_option maxHeartbeats 8000000 in
theorem st4_any (g c base : Nat) (n : Nat) (X1 X2 X3 X4 : List (Sp × Nat)) (w : World) (h : RowT w g base n c (X1 ++ (X2 ++ (X3 ++ (X4))))) (hlX1 : X1.length = 20) (hlX2 : X2.length = 20) (hlX3 : X3.length = 20) (hlX4 : X4.length = n - 60) (hlo : 60 < n) (hhi : n < 80) (hu : Up (X1 ++ (X2 ++ (X3 ++ (X4))))) :
    Calls Try.prog 41 #[.slice (some ⟨g, 0, none⟩) n c, .int .i64 n, .func (.func 27) #[] #[]] w fun e w' =>
      e = .returned (.tuple #[]) ∧ w.grownBy w' (some g) ∧ ∃ T, T.Perm (X1 ++ (X2 ++ (X3 ++ (X4)))) ∧ TS lessL T ∧ RowT w' g base n c T := by
  have hu1 := hu
  obtain ⟨huX1, hu2, ha1⟩ := up_app hu1
  have HUX1 := hide huX1
  obtain ⟨huX2, hu3, ha2⟩ := up_app hu2
  have HUX2 := hide huX2
  obtain ⟨huX3, hu4, ha3⟩ := up_app hu3
  have HUX3 := hide huX3
  have HUX4 := hide hu4
  have HLX1 := hide hlX1
  have HLX2 := hide hlX2
  have HLX3 := hide hlX3
  have HLX4 := hide hlX4
  have HN := hide (show 60 < n ∧ n < 80 from ⟨hlo, hhi⟩)
  have HAX1_X2 := hide (show Ahead X1 X2 from (by
    intro x hx y hy
    exact ha1 x hx y (List.mem_append_left _ hy)))
  have HAX3_X4 := hide (show Ahead X3 X4 from (by
    intro x hx y hy
    exact ha3 x hx y hy))
  have HAX1X2_X3X4 := hide (show Ahead (X1 ++ (X2)) (X3 ++ (X4)) from (by
    intro x hx y hy
    rcases List.mem_append.1 hx with hx | hx
    · exact ha1 x hx y (List.mem_append_right _ hy)
    · exact ha2 x hx y hy))
  have d20 : decide ((20 : Int) ≤ (n : Int)) = true := by simp; omega
  have e20 : decide ((20 : Int) < (n : Int)) = true := by simp; omega
  have d40 : decide ((40 : Int) ≤ (n : Int)) = true := by simp; omega
  have e40 : decide ((40 : Int) < (n : Int)) = true := by simp; omega
  have d60 : decide ((60 : Int) ≤ (n : Int)) = true := by simp; omega
  have e60 : decide ((60 : Int) < (n : Int)) = true := by simp; omega
  have d80 : decide ((80 : Int) ≤ (n : Int)) = false := by simp; omega
  have e80 : decide ((80 : Int) < (n : Int)) = false := by simp; omega
  have HR0 := hide h
  clear h hu1 hlX1 hlX2 hlX3 hlX4 ha1 huX1 ha2 huX2 ha3 huX3 hlo hhi hu2 hu3 hu4 hu
  go_enter Try.func41, Try.ntmps41
  go_wp2
  refine wp_loop_rounds 4 ?_
  rw [rounds_succ]
  go_wp2_with fail
  refine (insT_any g c base n ([] : List (Sp × Nat)) X1 (X2 ++ (X3 ++ (X4))) 0 20 _ (by simpa using HR0.out) (by have := HN.out; have := HLX1.out; have := HLX2.out; have := HLX3.out; have := HLX4.out; first | (simp; omega) | (simp; done) | omega) (by have := HN.out; have := HLX1.out; have := HLX2.out; have := HLX3.out; have := HLX4.out; first | (simp; omega) | (simp; done) | omega) (by have := HN.out; have := HLX1.out; have := HLX2.out; have := HLX3.out; have := HLX4.out; first | (simp; omega) | (simp; done) | omega) (by have := HN.out; have := HLX1.out; have := HLX2.out; have := HLX3.out; have := HLX4.out; first | (simp; omega) | (simp; done) | omega) HUX1.out).mono ?_
  rintro e w1 ⟨rfl, hg, Y1, hp, ht, ho⟩
  have HPY1 := hide hp
  have HTY1 := hide ht
  have HLY1 := hide (hp.length_eq.trans HLX1.out)
  have HR1 := hide (show RowT w1 g base n c (Y1 ++ (X2 ++ (X3 ++ (X4)))) by simpa using ho)
  have HG1 := hide (hg)
  clear hp ho hg ht
  go_wp2
  rw [rounds_succ]
  go_wp2_with fail
  refine (insT_any g c base n Y1 X2 (X3 ++ (X4)) 20 40 _ (by simpa using HR1.out) (by have := HN.out; have := HLY1.out; have := HLX2.out; have := HLX3.out; have := HLX4.out; first | (simp; omega) | (simp; done) | omega) (by have := HN.out; have := HLY1.out; have := HLX2.out; have := HLX3.out; have := HLX4.out; first | (simp; omega) | (simp; done) | omega) (by have := HN.out; have := HLY1.out; have := HLX2.out; have := HLX3.out; have := HLX4.out; first | (simp; omega) | (simp; done) | omega) (by have := HN.out; have := HLY1.out; have := HLX2.out; have := HLX3.out; have := HLX4.out; first | (simp; omega) | (simp; done) | omega) HUX2.out).mono ?_
  rintro e w2 ⟨rfl, hg, Y2, hp, ht, ho⟩
  have HPY2 := hide hp
  have HTY2 := hide ht
  have HLY2 := hide (hp.length_eq.trans HLX2.out)
  have HR2 := hide (show RowT w2 g base n c (Y1 ++ (Y2 ++ (X3 ++ (X4)))) by simpa using ho)
  have HG2 := hide (HG1.out.trans hg)
  clear hp ho hg ht
  go_wp2
  rw [rounds_succ]
  go_wp2_with fail
  refine (insT_any g c base n (Y1 ++ (Y2)) X3 X4 40 60 _ (by simpa using HR2.out) (by have := HN.out; have := HLY1.out; have := HLY2.out; have := HLX3.out; have := HLX4.out; first | (simp; omega) | (simp; done) | omega) (by have := HN.out; have := HLY1.out; have := HLY2.out; have := HLX3.out; have := HLX4.out; first | (simp; omega) | (simp; done) | omega) (by have := HN.out; have := HLY1.out; have := HLY2.out; have := HLX3.out; have := HLX4.out; first | (simp; omega) | (simp; done) | omega) (by have := HN.out; have := HLY1.out; have := HLY2.out; have := HLX3.out; have := HLX4.out; first | (simp; omega) | (simp; done) | omega) HUX3.out).mono ?_
  rintro e w3 ⟨rfl, hg, Y3, hp, ht, ho⟩
  have HPY3 := hide hp
  have HTY3 := hide ht
  have HLY3 := hide (hp.length_eq.trans HLX3.out)
  have HR3 := hide (show RowT w3 g base n c (Y1 ++ (Y2 ++ (Y3 ++ (X4)))) by simpa using ho)
  have HG3 := hide (HG2.out.trans hg)
  clear hp ho hg ht
  go_wp2
  rw [rounds_succ]
  go_wp2_with fail
  refine (insT_any g c base n (Y1 ++ (Y2 ++ (Y3))) X4 ([] : List (Sp × Nat)) 60 n _ (by simpa using HR3.out) (by have := HN.out; have := HLY1.out; have := HLY2.out; have := HLY3.out; have := HLX4.out; first | (simp; omega) | (simp; done) | omega) (by have := HN.out; have := HLY1.out; have := HLY2.out; have := HLY3.out; have := HLX4.out; first | (simp; omega) | (simp; done) | omega) (by have := HN.out; have := HLY1.out; have := HLY2.out; have := HLY3.out; have := HLX4.out; first | (simp; omega) | (simp; done) | omega) (by have := HN.out; have := HLY1.out; have := HLY2.out; have := HLY3.out; have := HLX4.out; first | (simp; omega) | (simp; done) | omega) HUX4.out).mono ?_
  rintro e w4 ⟨rfl, hg, Y4, hp, ht, ho⟩
  have HPY4 := hide hp
  have HTY4 := hide ht
  have HLY4 := hide (hp.length_eq.trans HLX4.out)
  have HR4 := hide (show RowT w4 g base n c (Y1 ++ (Y2 ++ (Y3 ++ (Y4)))) by simpa using ho)
  have HG4 := hide (HG3.out.trans hg)
  clear hp ho hg ht
  go_wp2
  refine wp_loop_rounds 3 ?_
  rw [rounds_succ]
  go_wp2
  refine wp_loop_rounds 2 ?_
  rw [rounds_succ]
  go_wp2_with fail
  refine (symT_any g c base n ([] : List (Sp × Nat)) Y1 Y2 (Y3 ++ (Y4)) 0 20 40 _ (by simpa using HR4.out) (by have := HN.out; have := HLY1.out; have := HLY2.out; have := HLY3.out; have := HLY4.out; first | (simp; omega) | (simp; done) | omega) (by have := HN.out; have := HLY1.out; have := HLY2.out; have := HLY3.out; have := HLY4.out; first | (simp; omega) | (simp; done) | omega) (by have := HN.out; have := HLY1.out; have := HLY2.out; have := HLY3.out; have := HLY4.out; first | (simp; omega) | (simp; done) | omega) (by have := HN.out; have := HLY1.out; have := HLY2.out; have := HLY3.out; have := HLY4.out; first | (simp; omega) | (simp; done) | omega) HTY1.out HTY2.out (ahead_of HPY1.out HPY2.out HAX1_X2.out) (by have := HN.out; have := HLY1.out; have := HLY2.out; have := HLY3.out; have := HLY4.out; first | (simp; omega) | (simp; done) | omega) (by have := HN.out; have := HLY1.out; have := HLY2.out; have := HLY3.out; have := HLY4.out; first | (simp; omega) | (simp; done) | omega) (by have := HN.out; have := HLY1.out; have := HLY2.out; have := HLY3.out; have := HLY4.out; first | (simp; omega) | (simp; done) | omega)).mono ?_
  rintro e w5 ⟨rfl, hg, Y5, hp, ht, ho⟩
  have HLY5 := hide (show Y5.length = _ from hp.length_eq.trans (List.length_append.trans (congr (congrArg HAdd.hAdd HLY1.out) HLY2.out)))
  have HPY5 := hide (hp.trans (HPY1.out.append HPY2.out))
  have HTY5 := hide ht
  have HR5 := hide (show RowT w5 g base n c (Y5 ++ (Y3 ++ (Y4))) by simpa using ho)
  have HG5 := hide (HG4.out.trans hg)
  clear hp ho hg ht
  go_wp2
  rw [rounds_succ]
  go_wp2_with fail
  refine (symT_any g c base n Y5 Y3 Y4 ([] : List (Sp × Nat)) 40 60 n _ (by simpa using HR5.out) (by have := HN.out; have := HLY5.out; have := HLY3.out; have := HLY4.out; first | (simp; omega) | (simp; done) | omega) (by have := HN.out; have := HLY5.out; have := HLY3.out; have := HLY4.out; first | (simp; omega) | (simp; done) | omega) (by have := HN.out; have := HLY5.out; have := HLY3.out; have := HLY4.out; first | (simp; omega) | (simp; done) | omega) (by have := HN.out; have := HLY5.out; have := HLY3.out; have := HLY4.out; first | (simp; omega) | (simp; done) | omega) HTY3.out HTY4.out (ahead_of HPY3.out HPY4.out HAX3_X4.out) (by have := HN.out; have := HLY5.out; have := HLY3.out; have := HLY4.out; first | (simp; omega) | (simp; done) | omega) (by have := HN.out; have := HLY5.out; have := HLY3.out; have := HLY4.out; first | (simp; omega) | (simp; done) | omega) (by have := HN.out; have := HLY5.out; have := HLY3.out; have := HLY4.out; first | (simp; omega) | (simp; done) | omega)).mono ?_
  rintro e w6 ⟨rfl, hg, Y6, hp, ht, ho⟩
  have HLY6 := hide (show Y6.length = _ from hp.length_eq.trans (List.length_append.trans (congr (congrArg HAdd.hAdd HLY3.out) HLY4.out)))
  have HPY6 := hide (hp.trans (HPY3.out.append HPY4.out))
  have HTY6 := hide ht
  have HR6 := hide (show RowT w6 g base n c (Y5 ++ (Y6)) by simpa using ho)
  have HG6 := hide (HG5.out.trans hg)
  clear hp ho hg ht
  go_wp2
  rw [rounds_succ]
  go_wp2
  refine wp_loop_rounds 1 ?_
  rw [rounds_succ]
  go_wp2_with fail
  refine (symT_any g c base n ([] : List (Sp × Nat)) Y5 Y6 ([] : List (Sp × Nat)) 0 40 n _ (by simpa using HR6.out) (by have := HN.out; have := HLY5.out; have := HLY6.out; first | (simp; omega) | (simp; done) | omega) (by have := HN.out; have := HLY5.out; have := HLY6.out; first | (simp; omega) | (simp; done) | omega) (by have := HN.out; have := HLY5.out; have := HLY6.out; first | (simp; omega) | (simp; done) | omega) (by have := HN.out; have := HLY5.out; have := HLY6.out; first | (simp; omega) | (simp; done) | omega) HTY5.out HTY6.out (ahead_of HPY5.out HPY6.out HAX1X2_X3X4.out) (by have := HN.out; have := HLY5.out; have := HLY6.out; first | (simp; omega) | (simp; done) | omega) (by have := HN.out; have := HLY5.out; have := HLY6.out; first | (simp; omega) | (simp; done) | omega) (by have := HN.out; have := HLY5.out; have := HLY6.out; first | (simp; omega) | (simp; done) | omega)).mono ?_
  rintro e w7 ⟨rfl, hg, Y7, hp, ht, ho⟩
  have HLY7 := hide (show Y7.length = _ from hp.length_eq.trans (List.length_append.trans (congr (congrArg HAdd.hAdd HLY5.out) HLY6.out)))
  have HPY7 := hide (hp.trans (HPY5.out.append HPY6.out))
  have HTY7 := hide ht
  have HR7 := hide (show RowT w7 g base n c Y7 by simpa using ho)
  have HG7 := hide (HG6.out.trans hg)
  clear hp ho hg ht
  go_wp2
  rw [rounds_succ]
  go_wp2
  go_end0
  refine ⟨rfl, HG7.out, Y7, ?_, HTY7.out, HR7.out⟩
  simpa using HPY7.out
end Go.Proofs.Ytjkjgfgblfioeaa
