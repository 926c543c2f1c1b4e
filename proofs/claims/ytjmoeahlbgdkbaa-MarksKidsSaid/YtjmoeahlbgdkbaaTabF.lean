/- Contracts of package marks at a table: where an id stands, its range. No condition but that ids rise. -/
import Derived.Test.YtjmoeahlbgdkbaaTab
import Derived.Test.YtjmoeahlbgdkbaaMarkA
namespace Go.Proofs.Ytjmoeahlbgdkbaa
open Go.ChangeShapes Go.WideShapes Go.ChangeAt Go.RowKit
attribute [local go_sem ↓] Go.wp_at_zero Go.wp_at_succ
set_option maxRecDepth 100000
def RiseM (l : List Mk) : Prop := l.Pairwise fun a b => a.id < b.id
theorem rise_at {l : List Mk} (h : RiseM l) (i j : Nat) (hij : i < j) (hj : j < l.length) : (l[i]'(by omega)).id < l[j].id := List.pairwise_iff_getElem.1 h i j (by omega) hj hij
/-- At i, or nowhere. -/
def FoundM (l : List Mk) (x : Int) (i : Nat) (ok : Bool) : Prop := (ok = true ∧ ∃ h : i < l.length, l[i].id = x) ∨ (ok = false ∧ ∀ r ∈ l, r.id ≠ x)
def SrchInv (l : List Mk) (x : Int) (w : World) (i j : Value) (wr : World) : Prop :=
  ∃ a b : Nat, i = .int .i64 a ∧ j = .int .i64 b ∧ a ≤ b ∧ b ≤ l.length ∧ (∀ k (h : k < l.length), k < a → l[k].id < x) ∧ (∀ k (h : k < l.length), b ≤ k → x ≤ l[k].id) ∧ Below w.heap.size w wr
theorem cmpM_neg {a x : Int} : cmpM a x < 0 ↔ a < x := by unfold cmpM; split <;> (try split) <;> omega
theorem cmpM_zero {a x : Int} : cmpM a x = 0 ↔ a = x := by unfold cmpM; split <;> (try split) <;> omega
theorem half_lt {a b : Nat} (h : a < b) : a ≤ (a + b) / 2 ∧ (a + b) / 2 < b := by omega
set_option maxHeartbeats 4000000 in
theorem search_any (base tb : Nat) (last : Int) (v : Value) (l : List Mk) (x : Int) (w : World) (h : Tab w base tb last v l) (hs : RiseM l) (hl : l.length ≤ 100000) :
    Calls Try.prog 62 #[v, .int .i64 x, .func (.func 63) #[] #[]] w fun e w' => (∃ (i : Nat) (ok : Bool), e = .returned (.tuple #[.int .i64 i, .bool ok]) ∧ FoundM l x i ok) ∧ Below w.heap.size w w' := by
  rcases h.form with ⟨rfl, rfl⟩ | ⟨g, c, rfl, hg1, hg2, hg3, hg4, hg5⟩
  · go_enter Try.func62, Try.ntmps62
    go_wp2
    refine wp_loop_rounds 1 ?_
    rw [rounds_succ]
    go_wp2
    go_ret2
    exact ⟨⟨0, false, rfl, .inr ⟨rfl, by simp⟩⟩, bl_refl w⟩
  unfold maxLen at hg4
  have H := hide h
  have HS := hide hs
  clear h hs
  go_enter Try.func62, Try.ntmps62
  go_wp2
  go_loopw [9, 10] (fun i j wr => SrchInv l x w i j wr) (fun i j _ => (intOf j - intOf i).toNat)
  case atStart => exact ⟨0, l.length, rfl, rfl, Nat.zero_le _, Nat.le_refl _, fun k _ h => by omega, fun k h1 h2 => by omega, bl_refl w⟩
  case round =>
    obtain ⟨a, b, rfl, rfl, hab, hbl, hlo, hhi, hbe⟩ := hrel
    by_cases hlt : a < b
    · obtain ⟨hh1, hh2⟩ := half_lt hlt
      obtain ⟨y0, y1, y2, y3, y4, y5⟩ := (H.out.later hbe).cell ((a + b) / 2) (by omega)
      have hL : l[(a + b) / 2].id < x → ∀ k (h : k < l.length), k < (a + b) / 2 + 1 → l[k].id < x := fun h k hk1 hk2 => by
        by_cases e : k = (a + b) / 2
        · subst e; exact h
        · have := rise_at HS.out k ((a + b) / 2) (by omega) (by omega); omega
      have hR : ¬ l[(a + b) / 2].id < x → ∀ k (h : k < l.length), (a + b) / 2 ≤ k → x ≤ l[k].id := fun h k hk1 hk2 => by
        by_cases e : k = (a + b) / 2
        · subst e; omega
        · have := rise_at HS.out ((a + b) / 2) k (by omega) (by omega); omega
      have HL := hide hL
      have HR := hide hR
      clear hL hR
      generalize l[(a + b) / 2] = r at *
      obtain ⟨id, f, t, rb, rc, p⟩ := r
      simp only at y0 y1 y2 y3 y4 y5 HL HR
      have HLO := hide hlo
      have HHI := hide hhi
      clear hlo hhi
      by_cases hx : id < x
      · have hcm : decide (cmpM id x < 0) = true := decide_eq_true (cmpM_neg.2 hx)
        have H2 := hide (HL.out hx)
        clear HL HR hx
        go_wp2_with fail
        refine (mcmp_any id f t p x _ rb rc _ rfl).mono ?_
        rintro e w1 ⟨rfl, hb1⟩
        have hb2 := bl_trans hbe hb1
        generalize cmpM id x = q at *
        go_wp2
        refine ⟨?_, by simp [intOf]; omega⟩
        exact ⟨(a + b) / 2 + 1, b, by rw [show ((a : Int) + (b : Int)) / 2 + 1 = (((a + b) / 2 + 1 : Nat) : Int) by omega], rfl, by omega, hbl, H2.out, HHI.out, hb2⟩
      · have hcm : decide (cmpM id x < 0) = false := decide_eq_false (fun h => hx (cmpM_neg.1 h))
        have H2 := hide (HR.out hx)
        clear HL HR hx
        go_wp2_with fail
        refine (mcmp_any id f t p x _ rb rc _ rfl).mono ?_
        rintro e w1 ⟨rfl, hb1⟩
        have hb2 := bl_trans hbe hb1
        generalize cmpM id x = q at *
        go_wp2
        refine ⟨?_, by simp [intOf]; omega⟩
        exact ⟨a, (a + b) / 2, rfl, by rw [show ((a : Int) + (b : Int)) / 2 = (((a + b) / 2 : Nat) : Int) by omega], by omega, by omega, HLO.out, H2.out, hb2⟩
    · obtain rfl : b = a := by omega
      by_cases hn : b < l.length
      · obtain ⟨y0, y1, y2, y3, y4, y5⟩ := (H.out.later hbe).cell b hn
        have hyes : l[b].id = x → FoundM l x b true := fun h => .inl ⟨rfl, hn, h⟩
        have hno : ¬ l[b].id = x → FoundM l x b false := fun h => .inr ⟨rfl, fun r hr => by
          obtain ⟨k, hk, rfl⟩ := List.getElem_of_mem hr
          rcases Nat.lt_trichotomy k b with h1 | h1 | h1
          · have := hlo k hk h1; omega
          · subst h1; exact h
          · have := hhi b hn (Nat.le_refl _); have := rise_at HS.out b k h1 hk; omega⟩
        have HY := hide hyes
        have HN := hide hno
        clear hyes hno hlo hhi hab
        generalize l[b] = r at *
        obtain ⟨id, f, t, rb, rc, p⟩ := r
        simp only at y0 y1 y2 y3 y4 y5 HY HN
        by_cases hx : id = x
        · have hcm : cmpM id x = 0 := cmpM_zero.2 hx
          have H2 := hide (HY.out hx)
          clear HY HN hx
          go_wp2_with fail
          refine (mcmp_any id f t p x 0 rb rc _ hcm).mono ?_
          rintro e w1 ⟨rfl, hb1⟩
          go_wp2
          go_ret2
          exact ⟨⟨b, true, rfl, H2.out⟩, bl_trans hbe hb1⟩
        · have hcm : (cmpM id x == 0) = false := beq_eq_false_iff_ne.2 (fun h => hx (cmpM_zero.1 h))
          have H2 := hide (HN.out hx)
          clear HY HN hx
          go_wp2_with fail
          refine (mcmp_any id f t p x _ rb rc _ rfl).mono ?_
          rintro e w1 ⟨rfl, hb1⟩
          generalize cmpM id x = q at *
          go_wp2
          go_ret2
          exact ⟨⟨b, false, rfl, H2.out⟩, bl_trans hbe hb1⟩
      · have hno : FoundM l x b false := .inr ⟨rfl, fun r hr => by
          obtain ⟨k, hk, rfl⟩ := List.getElem_of_mem hr
          have := hlo k hk (by omega); omega⟩
        have HN := hide hno
        clear hlo hhi hno
        go_wp2
        go_ret2
        exact ⟨⟨b, false, rfl, HN.out⟩, hbe⟩
theorem find_any (base tb : Nat) (last : Int) (v : Value) (l : List Mk) (x : Int) (w : World) (h : Tab w base tb last v l) (hs : RiseM l) (hl : l.length ≤ 100000) :
    Calls Try.prog 40 #[.pointer (some ⟨tb, 0, none⟩), .int .i64 x] w fun e w' => (∃ (i : Nat) (ok : Bool), e = .returned (.tuple #[.int .i64 i, .bool ok]) ∧ FoundM l x i ok) ∧ Below w.heap.size w w' := by
  have HC := hide (search_any base tb last v l x w h hs hl)
  obtain ⟨c0, c1, f0, f1⟩ := cells2 h.at0
  clear h hs
  go_enter Try.func40, Try.ntmps40
  go_wp2_with fail
  refine HC.out.mono ?_
  rintro e w1 ⟨⟨i, ok, rfl, hf⟩, hb1⟩
  have HF := hide hf
  clear hf
  go_wp2
  go_ret2
  exact ⟨⟨i, ok, rfl, HF.out⟩, hb1⟩
/-- What Get answers. -/
def GotM (l : List Mk) (x : Int) (r : Value) (ok : Bool) : Prop := (ok = true ∧ ∃ (i : Nat) (h : i < l.length), l[i].id = x ∧ r = vR l[i]) ∨ (ok = false ∧ r = zeroR ∧ ∀ r ∈ l, r.id ≠ x)
set_option maxHeartbeats 2000000 in
theorem get_any (base tb : Nat) (last : Int) (v : Value) (l : List Mk) (x : Int) (w : World) (h : Tab w base tb last v l) (hs : RiseM l) (hl : l.length ≤ 100000) :
    Calls Try.prog 18 #[.pointer (some ⟨tb, 0, none⟩), .int .i64 x] w fun e w' => (∃ r ok, e = .returned (.tuple #[r, .bool ok]) ∧ GotM l x r ok) ∧ Below w.heap.size w w' := by
  have hba : Below w.heap.size w (w.alloc (.cells #[.int .i64 0, .int .i64 0, .bool false, .bool false, .int .i64 0] 43)) := bl_alloc (bl_refl w) _
  have HC := hide (find_any base tb last v l x _ (h.later hba) hs hl)
  have H := hide h
  clear h hs
  go_enter Try.func18, Try.ntmps18
  go_wp2_with fail
  refine HC.out.mono ?_
  rintro e w1 ⟨⟨i, ok, rfl, hfo⟩, hb1⟩
  have hf := (hb1.block w.heap.size (by simp)).trans (heap_alloc_new w (.cells #[.int .i64 0, .int .i64 0, .bool false, .bool false, .int .i64 0] 43))
  have hb := bl_trans hba hb1
  obtain ⟨c0, c1, c2, c3, c4, cf⟩ := box5 hf
  have f0 := cf 0
  have f1 := cf 1
  have f2 := cf 2
  have f3 := cf 3
  have f4 := cf 4
  have hlt := (Array.getElem?_eq_some_iff.1 hf).1
  have H1 := H.out.later hb
  have htl := H.out.lt
  clear hf cf HC
  rcases hfo with ⟨rfl, hi, hid⟩ | ⟨rfl, hno⟩
  · rcases H1.form with ⟨rfl, rfl⟩ | ⟨g, c, rfl, hg1, hg2, hg3, hg4, hg5⟩
    · simp at hi
    unfold maxLen at hg4
    obtain ⟨x0, x1, x2, x3, x4, x5⟩ := H1.cell i hi
    obtain ⟨d0, d1, _, _⟩ := cells2 H1.at0
    have hgg := World.block_lt_of_cell? w _ (((H.out.cell i hi)).1)
    have HG := hide (show GotM l x (vR l[i]) true from .inl ⟨rfl, i, hi, hid, rfl⟩)
    clear hid H1
    generalize l[i] = r at *
    obtain ⟨id, f, t, rb, rc, p⟩ := r
    simp only at x0 x1 x2 x3 x4 x5
    go_wp2
    (try simp only [Exit.inBlock, Exit.then])
    refine bodyPost_ret (v := .tuple #[vR ⟨id, f, t, rb, rc, p⟩, .bool true]) ?_ rfl ⟨⟨_, true, rfl, HG.out⟩, ?_⟩
    · rw [results_cell_tmp rfl]
      unfold vR
      go_simp
    · repeat (first | exact hb | refine bl_set ?_ (Nat.le_refl _) _ | refine bl_drew ?_)
  · have HG := hide (show GotM l x zeroR false from .inr ⟨rfl, rfl, hno⟩)
    clear hno H1
    go_wp2
    (try simp only [Exit.inBlock, Exit.then])
    refine bodyPost_ret (v := .tuple #[zeroR, .bool false]) ?_ rfl ⟨⟨_, false, rfl, HG.out⟩, ?_⟩
    · rw [results_cell_tmp rfl]
      unfold zeroR
      go_simp
    · repeat (first | exact hb | refine bl_set ?_ (Nat.le_refl _) _ | refine bl_drew ?_)
end Go.Proofs.Ytjmoeahlbgdkbaa
