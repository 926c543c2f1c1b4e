/- Contracts on edits: the order that the sort asks for, is a list in order, the length of a stretch, a copy. No condition but short slices. -/
import Derived.Test.YtjkjgfgblfioeaaEdA
import Derived.Test.YtjkjgfgblfioeaaSpanC
import Derived.Lib.LazyBuf
namespace Go.Proofs.Ytjkjgfgblfioeaa
open Go.ChangeShapes Go.WideShapes Go.ChangeAt Go.RowKit
open SpanM EdM
attribute [local go_sem ↓] Go.wp_at_zero Go.wp_at_succ
attribute [local go_sem] later_cell later_frozen
def vE (e : Ed) : Value := .agg #[.int .i64 e.1.1, .int .i64 e.1.2, .string e.2]
def cmpE (a b : Ed) : Int := cmpS a.1 b.1
set_option maxRecDepth 100000 in
set_option maxHeartbeats 2000000 in
theorem compare_any (a b : Ed) (w : World) : Calls Try.prog 37 #[.agg #[.int .i64 a.1.1, .int .i64 a.1.2, .string a.2], .agg #[.int .i64 b.1.1, .int .i64 b.1.2, .string b.2]] w fun e w' => e = .returned (.int .i64 (cmpE a b)) ∧ ∃ q os', w' = Go.Sort.grow (w.drewN q) os' := by
  obtain ⟨⟨a1, a2⟩, ax⟩ := a
  obtain ⟨⟨b1, b2⟩, bx⟩ := b
  have HE := hide (show cmpE ((a1, a2), ax) ((b1, b2), bx) = if cmpI a1 b1 = 0 then cmpI a2 b2 else cmpI a1 b1 from rfl)
  generalize cmpE ((a1, a2), ax) ((b1, b2), bx) = r at *
  go_enter Try.func37, Try.ntmps37
  go_wp2
  go_region_held3 (fun w' => w'.cell? ⟨w.heap.size, 0, none⟩ = some (.int .i64 a1) ∧ w'.cell? ⟨w.heap.size, 1, none⟩ = some (.int .i64 a2) ∧ w'.cell? ⟨w.heap.size + 1, 0, none⟩ = some (.int .i64 b1) ∧ w'.cell? ⟨w.heap.size + 1, 1, none⟩ = some (.int .i64 b2)) (go_keep)
    (first | (go_at_call 29; refine (cmp_any _ _ _).mono ?_; rintro e w1 ⟨rfl, rfl⟩) | (go_at_call 28; refine (or_any _ (cmpI a1 b1) (cmpI a2 b2) r _ (by go_simp) (by go_simp) HE.out.symm).mono ?_; rintro e w1 ⟨rfl, rfl⟩))
  all_goals
    go_wp2
    go_ret
    exact ⟨rfl, 1, _, by rw [Go.Sort.alloc_eq_grow, Go.Sort.alloc_eq_grow, Go.Sort.alloc_eq_grow, Go.Sort.grow_grow, Go.Sort.grow_grow]; rfl⟩
theorem bl_grow (w : World) (q : Nat) (os : Array Obj) : Below w.heap.size w (Go.Sort.grow (w.drewN q) os) :=
  ⟨rfl, rfl, rfl, by simp, fun k hk => by rw [Go.Sort.heap_grow_old _ _ (by simpa using hk)]; rfl⟩
theorem comparee_any (a b : Ed) (r : Int) (w : World) (h : cmpE a b = r) : Calls Try.prog 37 #[.agg #[.int .i64 a.1.1, .int .i64 a.1.2, .string a.2], .agg #[.int .i64 b.1.1, .int .i64 b.1.2, .string b.2]] w fun e w' => e = .returned (.int .i64 r) ∧ Below w.heap.size w w' := by
  subst h
  exact (compare_any a b w).mono fun e w' ⟨he, q, os, hw⟩ => ⟨he, by rw [hw]; exact bl_grow w q os⟩
set_option maxRecDepth 100000 in
set_option maxHeartbeats 400000 in
theorem slen_any (a : Sp) (w : World) (h1 : -4000000000000000000 ≤ a.1) (h2 : a.1 ≤ 4000000000000000000) (h3 : -4000000000000000000 ≤ a.2) (h4 : a.2 ≤ 4000000000000000000) : Calls Try.prog 40 #[.agg #[.int .i64 a.1, .int .i64 a.2]] w fun e w' => e = .returned (.int .i64 (a.2 - a.1)) ∧ Below w.heap.size w w' := by
  obtain ⟨a1, a2⟩ := a
  simp only at h1 h2 h3 h4
  go_enter Try.func40, Try.ntmps40
  go_wp2
  go_ret
  exact ⟨rfl, (by repeat (first | exact bl_refl _ | assumption | refine bl_alloc ?_ _ | refine bl_drewN ?_ _ | refine bl_drew ?_ | refine bl_trans ?_ (by assumption)))⟩
theorem slene_any (a : Sp) (n : Int) (w : World) (h1 : -4000000000000000000 ≤ a.1) (h2 : a.1 ≤ 4000000000000000000) (h3 : -4000000000000000000 ≤ a.2) (h4 : a.2 ≤ 4000000000000000000) (hn : a.2 - a.1 = n) : Calls Try.prog 40 #[.agg #[.int .i64 a.1, .int .i64 a.2]] w fun e w' => e = .returned (.int .i64 n) ∧ Below w.heap.size w w' := by
  subst hn; exact slen_any a w h1 h2 h3 h4
set_option maxRecDepth 100000 in
set_option maxHeartbeats 1000000 in
theorem cloneE_any (v : Value) (l : List Ed) (w : World) (h : EdAt w v l) (hl : l.length ≤ 1000) :
    Calls Try.prog 35 #[v] w fun e w' => ∃ v', e = .returned v' ∧ Below w.heap.size w w' ∧ w'.ownsRow w.heap.size 44 3 v' l.length (flatE l) := by
  obtain ⟨i0, hi0, hz0', hz1, hz2⟩ := info_parts info_ed
  have hsn := fun (W : World) (a : Option Addr) (n c : Nat) => Lib.run_eql_slice_nil (P := Try.prog) W 42 44 a n c 0 0 Try.underlying42
  rcases h with ⟨rfl, rfl⟩ | ⟨x, c, rfl, h1, h2, h3⟩
  · go_enter Try.func35, Try.ntmps35
    go_wp2
    go_ret
    exact ⟨_, rfl, bl_refl w, ⟨rfl, .inl ⟨rfl, rfl⟩⟩⟩
  · have hm0 := World.ownsRow_made (base := w.heap.size) (e := 44) (size := 3) w #[] 0 (Nat.le_refl _) (by simp [maxLen]) (by simp)
    have hnews : ∀ j u, (flatE l)[j]? = some u → (w.alloc (.cells #[] 44)).cell? (x.add j) = some u := by
      intro j u hu
      have hj : j < l.length * 3 := by
        have := (List.getElem?_eq_some_iff.1 hu).1
        rwa [flatE_len] at this
      have hq : j / 3 < l.length := by omega
      have hf := flatE_at l (j / 3) hq
      have hc := h3 (j / 3) hq
      have hmod : j % 3 = 0 ∨ j % 3 = 1 ∨ j % 3 = 2 := by omega
      rcases hmod with hh | hh | hh
      · have ht : j / 3 * 3 = j := by omega
        rw [ht] at hf hc
        rw [hu] at hf
        rw [Option.some.inj hf.1]
        exact cell_later (bl_alloc (bl_refl w) _) hc.1
      · have ht : j / 3 * 3 + 1 = j := by omega
        rw [ht] at hf hc
        rw [hu] at hf
        rw [Option.some.inj hf.2.1]
        exact cell_later (bl_alloc (bl_refl w) _) hc.2.1
      · have ht : j / 3 * 3 + 2 = j := by omega
        rw [ht] at hf hc
        rw [hu] at hf
        rw [Option.some.inj hf.2.2]
        exact cell_later (bl_alloc (bl_refl w) _) hc.2.2
    have hbb : (l.length) * 32 ≤ 140737488355328 := by omega
    clear h3
    go_enter Try.func35, Try.ntmps35
    go_wp2_with (at_builtin; (refine wpList_append_own _ rfl _ _ 42 rfl w.heap.size 44 i0 (.agg #[.int .i64 0, .int .i64 0, .string ⟨#[]⟩]) 3 32 Try.underlying42 hi0 hz0' hz1 hz2 rfl (by decide) _ 0 [] rfl hm0 x l.length c (flatE l) rfl (flatE_len l) hnews (flatE_one l) (by unfold maxLen; omega) (by omega) (by simp) ?_); intro v' w4 hv4 hg4 hat)
    go_ret
    rw [Nat.zero_add, List.nil_append] at hv4
    exact ⟨_, rfl, bl_own (bl_alloc (bl_refl w) _) hm0 hg4 (Nat.le_refl _), hv4⟩
set_option maxRecDepth 100000 in
set_option maxHeartbeats 4000000 in
theorem issorted_any (v : Value) (l : List Ed) (w : World) (h : EdAt w v l) (hl : l.length ≤ 1000) :
    Calls Try.prog 45 #[v, .func (.func 37) #[] #[]] w fun e w' => (e = .returned (.bool true) ∧ (∀ i, (h : i + 1 < l.length) → 0 ≤ cmpE l[i + 1] l[i]) ∨ e = .returned (.bool false)) ∧ Below w.heap.size w w' := by
  obtain ⟨aA, cA, rfl⟩ := edat_len h
  have H := hide h
  clear h
  obtain ⟨P, hP⟩ : ∃ P : Prop, (∀ i, (h : i + 1 < l.length) → 0 ≤ cmpE l[i + 1] l[i]) = P := ⟨_, rfl⟩
  rw [hP]
  have HP := hide hP
  clear hP
  by_cases hp : 0 < l.length
  case neg =>
    have h0 : l.length = 0 := by omega
    have HPP : Hid P := hide (by rw [← HP.out]; intro i hi; omega)
    rw [h0]
    clear HP
    go_enter Try.func45, Try.ntmps45
    go_wp2
    refine wp_loop_rounds 1 ?_
    rw [rounds_succ]
    go_wp2
    go_ret
    exact ⟨.inl ⟨rfl, HPP.out⟩, bl_refl w⟩
  have hsub : IntKind.i64.wrap ((l.length : Int) - 1) = ((l.length - 1 : Nat) : Int) := by rw [IntWalk.i64_in _ (by omega)]; omega
  go_enter Try.func45, Try.ntmps45
  go_wp2
  go_loopw [5] (fun i wr => ∃ k : Nat, i = .int .i64 k ∧ k < l.length ∧ Hid (∀ i, (h : i + 1 < l.length) → k ≤ i → 0 ≤ cmpE l[i + 1] l[i]) ∧ Below w.heap.size w wr) (fun i _ => (intOf i).toNat)
  case atStart => exact ⟨l.length - 1, rfl, by omega, hide (fun i h1 h2 => by omega), bl_refl w⟩
  case round =>
    obtain ⟨k, rfl, hk, HT, hbl⟩ := hrel
    rcases Nat.eq_zero_or_pos k with h0 | h0
    · subst h0
      have HPP : Hid P := hide (by rw [← HP.out]; intro i hi; exact HT.out i hi (by omega))
      clear HP HT
      go_wp2
      go_ret
      exact ⟨.inl ⟨rfl, HPP.out⟩, hbl⟩
    · obtain ⟨j, rfl⟩ : ∃ j, k = j + 1 := ⟨k - 1, by omega⟩
      obtain ⟨b1, o1, c1, hv1, hc1, hm1, hlb1, hcell1⟩ := edat_some (edat_below H.out hbl) (by omega)
      injection hv1 with hv1 _ hv1c
      subst hv1 hv1c
      unfold maxLen at hm1
      obtain ⟨x1, x2, x3⟩ := hcell1 (j + 1) hk
      obtain ⟨y1, y2, y3⟩ := hcell1 j (by omega)
      have hno : 0 ≤ cmpE l[j + 1] l[j] → Hid (∀ i, (h : i + 1 < l.length) → j ≤ i → 0 ≤ cmpE l[i + 1] l[i]) := fun hh => hide fun i h1 h2 => by
        by_cases hi : i = j
        · subst hi; exact hh
        · exact HT.out i h1 (by omega)
      have HNO := hide hno
      clear hno HT hcell1
      obtain ⟨r, hr⟩ : ∃ r, cmpE l[j + 1] l[j] = r := ⟨_, rfl⟩
      rw [hr] at HNO
      have HR := hide hr
      clear hr
      generalize l[j + 1] = s at *
      generalize l[j] = t at *
      have hj0 : decide ((0 : Int) < (j : Int) + 1) = true := by first | (simp; done) | (simp; omega)
      by_cases hrr : r < 0
      · go_wp2
        refine wp_region_later (by kernel_rfl) (by kernel_rfl) ?_
        repeat (go_big_quiet_step (first | (go_at_call 37; exact later_call (comparee_any s t r _ HR.out)) | exact rfl))
        refine wpQuiet_nil ?_
        rintro w9 ⟨⟨_, hb9⟩, rfl⟩
        go_wp2
        go_ret
        exact ⟨.inr rfl, bl_trans hbl hb9⟩
      · have HT2 := HNO.out (by omega)
        have hrd : decide (r < 0) = false := by simp; omega
        clear HNO hrr
        go_wp2
        refine wp_region_later (by kernel_rfl) (by kernel_rfl) ?_
        repeat (go_big_quiet_step (first | (go_at_call 37; exact later_call (comparee_any s t r _ HR.out)) | exact rfl))
        refine wpQuiet_nil ?_
        rintro w9 ⟨⟨_, hb9⟩, rfl⟩
        have hb5 := bl_trans hbl hb9
        go_wp2
        refine ⟨?_, by first | (simp [intOf]; done) | (simp [intOf]; omega)⟩
        first
          | exact ⟨j, by go_num, by omega, HT2, hb5⟩
          | ((repeat apply Exists.intro); exact ⟨⟨j, by go_num, by omega, HT2, hb5⟩, rfl⟩)
end Go.Proofs.Ytjkjgfgblfioeaa
