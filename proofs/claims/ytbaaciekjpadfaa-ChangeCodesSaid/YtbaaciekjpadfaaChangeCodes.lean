/- Of several codes the first one is told. Conditions: none beyond the form's own. -/
import Derived.Test.YtbaaciekjpadfaaRows
import Derived.Test.YtbaaciekjpadfaaArgs
import Derived.Test.YtbaaciekjpadfaaRefA
import Derived.BigQuiet
namespace Go.Proofs.Ytbaaciekjpadfaa.changeCodes
open Go.Proofs.Ytbaaciekjpadfaa
open Go.ChangeShapes Go.WideShapes Go.ChangeAt Go.RowKit Go.Deep
open Go.ChangeMaps (open_string shut_string)
set_option linter.unusedVariables false

theorem own : ownKnob Try.prog.godebug = none := by kernel_rfl
theorem laidOut : laidOutB Try.prog = true := by kernel_rfl
-- opt:8000000
open SpanM EdM
attribute [local go_sem ↓] Go.wp_at_zero Go.wp_at_succ
attribute [local go_sem] later_cell later_frozen
def twoE (p q p' q' : Nat) (U : ByteArray) : List Ed := [(((p : Int), (p : Int) + (q : Int)), ⟨#[117]⟩), (((p' : Int), (p' : Int) + (q' : Int)), U)]
theorem two_range (m p q p' q' : Nat) (U : ByteArray) (h : ¬ (p + q ≤ m ∧ p' + q' ≤ m)) : mayE m (twoE p q p' q' U) = 3 := by
  unfold mayE
  rw [if_neg]
  intro hall
  have h1 := List.all_eq_true.1 hall _ (List.mem_cons_self)
  have h2 := List.all_eq_true.1 hall (((p' : Int), (p' : Int) + (q' : Int)), U) (by simp [twoE])
  unfold mayB at h1 h2
  have h1' := of_decide_eq_true h1
  have h2' := of_decide_eq_true h2
  simp only at h1' h2'
  omega
theorem two_in (m p q p' q' : Nat) (U : ByteArray) (h : p + q ≤ m ∧ p' + q' ≤ m) : mayE m (twoE p q p' q' U) = if apF (sortS [((p : Int), (p : Int) + (q : Int)), ((p' : Int), (p' : Int) + (q' : Int))]) then (if (m : Int) + 1 - q + U.size - q' > 65536 then 4 else 0) else 5 := by
  unfold mayE
  rw [if_pos (by
    rw [List.all_eq_true]
    intro e he
    simp only [twoE, List.mem_cons, List.not_mem_nil, or_false] at he
    unfold mayB
    rcases he with rfl | rfl
    · simp only; exact decide_eq_true (by omega)
    · simp only; exact decide_eq_true (by omega))]
  have e1 : (twoE p q p' q' U).map (·.1) = [((p : Int), (p : Int) + (q : Int)), ((p' : Int), (p' : Int) + (q' : Int))] := rfl
  have e2 : grown (m : Int) (twoE p q p' q' U) = (m : Int) + 1 - q + U.size - q' := by
    have : grown (m : Int) (twoE p q p' q' U) = (m : Int) + (1 - ((p : Int) + q - p)) + ((U.size : Int) - ((p' : Int) + q' - p')) := rfl
    rw [this]; omega
  rw [e1, e2]
def cut40 (m : Nat) : ByteArray := (⟨#[48, 49, 50, 51, 52, 53, 54, 55, 56, 57, 48, 49, 50, 51, 52, 53, 54, 55, 56, 57, 48, 49, 50, 51, 52, 53, 54, 55, 56, 57, 48, 49, 50, 51, 52, 53, 54, 55, 56, 57]⟩ : ByteArray).extract 0 m
theorem cut40_size (m : Nat) (h : m < 40) : (cut40 m).size = m := by
  unfold cut40
  rw [ByteArray.size_extract]
  show min m 40 - 0 = m
  omega
theorem two_small (p q p' q' : Nat) (U : ByteArray) (h : U.size ≤ 70000) : ∀ e ∈ twoE p q p' q' U, e.2.size ≤ 70000 := fun e he => by
  simp only [twoE, List.mem_cons, List.not_mem_nil, or_false] at he
  rcases he with rfl | rfl
  · show (⟨#[117]⟩ : ByteArray).size ≤ 70000; decide
  · exact h
theorem alloc2 (w : World) (p q p' q' : Nat) (U : ByteArray) : EdAt (w.alloc (.cells #[.int .i64 (p : Int), .int .i64 ((p : Int) + (q : Int)), .string ⟨#[117]⟩, .int .i64 (p' : Int), .int .i64 ((p' : Int) + (q' : Int)), .string U] 45)) (.slice (some ⟨w.heap.size, 0, none⟩) 2 2) (twoE p q p' q' U) := allocE w (twoE p q p' q' U) (by simp [twoE])
theorem alloc2s (w : World) (p q p' q' : Nat) : SpAt (w.alloc (.cells #[.int .i64 (p : Int), .int .i64 ((p : Int) + (q : Int)), .int .i64 (p' : Int), .int .i64 ((p' : Int) + (q' : Int))] 43)) (.slice (some ⟨w.heap.size, 0, none⟩) 2 2) [((p : Int), (p : Int) + (q : Int)), ((p' : Int), (p' : Int) + (q' : Int))] := alloc_spat w [((p : Int), (p : Int) + (q : Int)), ((p' : Int), (p' : Int) + (q' : Int))] (by simp)
def LInv (w : World) (p q p' q' : Nat) (wr : World) : Prop :=
  ∃ (d : Nat) (U : ByteArray), d ≤ 16 ∧ U.size = 2 ^ d ∧ wr.cell? ⟨w.heap.size, 0, none⟩ = some (.int .i64 (p : Int)) ∧ wr.cell? ⟨w.heap.size, 1, none⟩ = some (.int .i64 ((p : Int) + (q : Int))) ∧ wr.cell? ⟨w.heap.size, 2, none⟩ = some (.string ⟨#[117]⟩) ∧
    wr.cell? ⟨w.heap.size + 1, 0, none⟩ = some (.int .i64 (p' : Int)) ∧ wr.cell? ⟨w.heap.size + 1, 1, none⟩ = some (.int .i64 ((p' : Int) + (q' : Int))) ∧ wr.cell? ⟨w.heap.size + 1, 2, none⟩ = some (.string U) ∧ wr.frozen? ⟨w.heap.size + 1, 2, none⟩ = false ∧ Below w.heap.size w wr ∧ w.heap.size + 2 ≤ wr.heap.size
theorem boxf {W : World} {n : Nat} {cs : Array Value} {e : TypeId} (h : W.heap[n]? = some (.cells cs e (0, 0))) (k : Nat) : W.frozen? ⟨n, k, none⟩ = false := by simp [World.frozen?, h]
theorem sz1 : (⟨#[118]⟩ : ByteArray).size = 1 := rfl
def lmeas : Option Value → Nat
  | some (.string U) => 70000 - U.size
  | _ => 0
set_option maxRecDepth 100000 in
set_option maxHeartbeats 8000000 in
theorem walk (a0 : Int) (a1 : Int) (a2 : Int) (a3 : Bool) (w : World) (w0 : (Lit.int .i64 a0).wf = true) (w1 : (Lit.int .i64 a1).wf = true) (w2 : (Lit.int .i64 a2).wf = true) :
    Calls Try.prog 10 #[.int .i64 a0, .int .i64 a1, .int .i64 a2, .bool a3] w fun e w' => e = .returned (.bool true) ∧ Below w.heap.size w w' := by
  have hL1 : ∀ W, _ := fun W => low_any a0 40 W (by decide) (by decide)
  have hL2 : ∀ W, _ := fun W => low_any a1 40 W (by decide) (by decide)
  have hL3 : ∀ W, _ := fun W => low_any a2 3 W (by decide) (by decide)
  have hL4 : ∀ W, _ := fun W => low_any a2 40 W (by decide) (by decide)
  have hL5 : ∀ W, _ := fun W => low_any a1 3 W (by decide) (by decide)
  have hm := lowN_lt a0 40 (by decide)
  have hp := lowN_lt a1 40 (by decide)
  have hq := lowN_lt a2 3 (by decide)
  have hp' := lowN_lt a2 40 (by decide)
  have hq' := lowN_lt a1 3 (by decide)
  generalize lowN a0 40 = m at *
  generalize lowN a1 40 = p at *
  generalize lowN a2 3 = q at *
  generalize lowN a2 40 = p' at *
  generalize lowN a1 3 = q' at *
  have HL1 := hide hL1
  have HL2 := hide hL2
  have HL3 := hide hL3
  have HL4 := hide hL4
  have HL5 := hide hL5
  have hw1 : IntKind.i64.wrap ((p : Int) + (q : Int)) = (p : Int) + (q : Int) := IntWalk.i64_in _ (by omega)
  have hw2 : IntKind.i64.wrap ((p' : Int) + (q' : Int)) = (p' : Int) + (q' : Int) := IntWalk.i64_in _ (by omega)
  obtain ⟨ap, hap⟩ : ∃ ap, apF (sortS [((p : Int), (p : Int) + (q : Int)), ((p' : Int), (p' : Int) + (q' : Int))]) = ap := ⟨_, rfl⟩
  have hcut := cut40_size m hm
  have HAP := hide hap
  clear hL1 hL2 hL3 hL4 hL5
  go_enter Try.func10, Try.ntmps10
  go_wp2_with fail
  refine (HL1.out _).mono ?_
  rintro e w10 ⟨rfl, rfl⟩
  go_wp2_with fail
  refine (HL2.out _).mono ?_
  rintro e w11 ⟨rfl, rfl⟩
  go_wp2_with fail
  refine (HL2.out _).mono ?_
  rintro e w12 ⟨rfl, rfl⟩
  go_wp2_with fail
  refine (HL3.out _).mono ?_
  rintro e w13 ⟨rfl, rfl⟩
  go_wp2_with fail
  refine (HL4.out _).mono ?_
  rintro e w14 ⟨rfl, rfl⟩
  go_wp2_with fail
  refine (HL4.out _).mono ?_
  rintro e w15 ⟨rfl, rfl⟩
  go_wp2_with fail
  refine (HL5.out _).mono ?_
  rintro e w16 ⟨rfl, rfl⟩
  go_upto_region 4 with fail
  obtain ⟨z1, z2, z3⟩ := box3 (heap_old (o := .cells #[.int .i64 (p' : Int), .int .i64 ((p' : Int) + (q' : Int)), .string ⟨#[118]⟩] 45) (heap_alloc_new w (.cells #[.int .i64 (p : Int), .int .i64 ((p : Int) + (q : Int)), .string ⟨#[117]⟩] 45)))
  have hyy : ((w.alloc (.cells #[.int .i64 (p : Int), .int .i64 ((p : Int) + (q : Int)), .string ⟨#[117]⟩] 45)).alloc (.cells #[.int .i64 (p' : Int), .int .i64 ((p' : Int) + (q' : Int)), .string ⟨#[118]⟩] 45)).heap[w.heap.size + 1]? = some (.cells #[.int .i64 (p' : Int), .int .i64 ((p' : Int) + (q' : Int)), .string ⟨#[118]⟩] 45 (0, 0)) := by
    have h := heap_alloc_new (w.alloc (.cells #[.int .i64 (p : Int), .int .i64 ((p : Int) + (q : Int)), .string ⟨#[117]⟩] 45)) (.cells #[.int .i64 (p' : Int), .int .i64 ((p' : Int) + (q' : Int)), .string ⟨#[118]⟩] 45)
    rw [World.size_alloc] at h
    exact h
  obtain ⟨y1, y2, y3⟩ := box3 hyy
  have hfz : ((w.alloc (.cells #[.int .i64 (p : Int), .int .i64 ((p : Int) + (q : Int)), .string ⟨#[117]⟩] 45)).alloc (.cells #[.int .i64 (p' : Int), .int .i64 ((p' : Int) + (q' : Int)), .string ⟨#[118]⟩] 45)).frozen? ⟨w.heap.size + 1, 2, none⟩ = false := boxf hyy 2
  have hbl : Below w.heap.size w ((w.alloc (.cells #[.int .i64 (p : Int), .int .i64 ((p : Int) + (q : Int)), .string ⟨#[117]⟩] 45)).alloc (.cells #[.int .i64 (p' : Int), .int .i64 ((p' : Int) + (q' : Int)), .string ⟨#[118]⟩] 45)) := bl_alloc (bl_alloc (bl_refl w) _) _
  have hsz : w.heap.size + 2 ≤ ((w.alloc (.cells #[.int .i64 (p : Int), .int .i64 ((p : Int) + (q : Int)), .string ⟨#[117]⟩] 45)).alloc (.cells #[.int .i64 (p' : Int), .int .i64 ((p' : Int) + (q' : Int)), .string ⟨#[118]⟩] 45)).heap.size := by rw [World.size_alloc, World.size_alloc]; omega
  generalize ((w.alloc (.cells #[.int .i64 (p : Int), .int .i64 ((p : Int) + (q : Int)), .string ⟨#[117]⟩] 45)).alloc (.cells #[.int .i64 (p' : Int), .int .i64 ((p' : Int) + (q' : Int)), .string ⟨#[118]⟩] 45)) = Wc at *
  clear hyy hap
  cases a3
  · clear hfz
    by_cases hr1 : p + q ≤ m
    · have d1 : decide ((m : Int) < (p : Int) + (q : Int)) = false := by simp; omega
      by_cases hr2 : p' + q' ≤ m
      · have d2 : decide ((m : Int) < (p' : Int) + (q' : Int)) = false := by simp; omega
        have HIN := hide (two_in m p q p' q' ⟨#[118]⟩ ⟨hr1, hr2⟩)
        cases ap
        · have HME : Hid (mayE m (twoE p q p' q' ⟨#[118]⟩) = 5) := hide (by rw [HIN.out, HAP.out]; rfl)
          clear HIN
          go_wp2_with fail
          refine (rapartm_any _ [((p : Int), (p : Int) + (q : Int)), ((p' : Int), (p' : Int) + (q' : Int))] _ _ (alloc2s Wc p q p' q') (by simp) HAP.out).mono ?_
          rintro e u1 ⟨rfl, hbu1⟩
          have hbnu := bl_trans (bl_alloc (bl_refl Wc) (.cells #[.int .i64 (p : Int), .int .i64 ((p : Int) + (q : Int)), .int .i64 (p' : Int), .int .i64 ((p' : Int) + (q' : Int))] 43)) hbu1
          have z1 := cell_later hbnu z1
          have z2 := cell_later hbnu z2
          have z3 := cell_later hbnu z3
          have y1 := cell_later hbnu y1
          have y2 := cell_later hbnu y2
          have y3 := cell_later hbnu y3
          have hbl := bl_trans hbl hbnu
          have hsz : w.heap.size + 2 ≤ u1.heap.size := Nat.le_trans hsz hbnu.size
          have HXX : Hid (∀ e ∈ twoE p q p' q' ⟨#[118]⟩, e.2.size ≤ 70000) := hide (two_small p q p' q' ⟨#[118]⟩ (by decide))
          have hqr : (5 : Int) ≠ 0 := by decide
          go_wp2_with fail
          refine (apply_no (cut40 m) 5 _ (twoE p q p' q' ⟨#[118]⟩) _ (alloc2 u1 p q p' q' ⟨#[118]⟩) (by simp [twoE]) HXX.out (by omega) (by rw [hcut]; exact HME.out) hqr).mono ?_
          rintro e v1 ⟨rfl, hbv1⟩
          have hbnv1 := bl_trans (bl_alloc (bl_refl u1) (.cells #[.int .i64 (p : Int), .int .i64 ((p : Int) + (q : Int)), .string ⟨#[117]⟩, .int .i64 (p' : Int), .int .i64 ((p' : Int) + (q' : Int)), .string ⟨#[118]⟩] 45)) hbv1
          have z1 := cell_later hbnv1 z1
          have z2 := cell_later hbnv1 z2
          have z3 := cell_later hbnv1 z3
          have y1 := cell_later hbnv1 y1
          have y2 := cell_later hbnv1 y2
          have y3 := cell_later hbnv1 y3
          have hbl := bl_trans hbl hbnv1
          have hsz : w.heap.size + 2 ≤ v1.heap.size := Nat.le_trans hsz hbnv1.size
          go_wp2_with fail
          refine (back_no (cut40 m) 5 _ (twoE p q p' q' ⟨#[118]⟩) _ (alloc2 v1 p q p' q' ⟨#[118]⟩) (by simp [twoE]) HXX.out (by omega) (by rw [hcut]; exact HME.out) hqr).mono ?_
          rintro e v2 ⟨rfl, hbv2⟩
          have hbnv2 := bl_trans (bl_alloc (bl_refl v1) (.cells #[.int .i64 (p : Int), .int .i64 ((p : Int) + (q : Int)), .string ⟨#[117]⟩, .int .i64 (p' : Int), .int .i64 ((p' : Int) + (q' : Int)), .string ⟨#[118]⟩] 45)) hbv2
          have z1 := cell_later hbnv2 z1
          have z2 := cell_later hbnv2 z2
          have z3 := cell_later hbnv2 z3
          have y1 := cell_later hbnv2 y1
          have y2 := cell_later hbnv2 y2
          have y3 := cell_later hbnv2 y3
          have hbl := bl_trans hbl hbnv2
          have hsz : w.heap.size + 2 ≤ v2.heap.size := Nat.le_trans hsz hbnv2.size
          go_wp2_with fail
          refine (may6e_any m 5 _ (twoE p q p' q' ⟨#[118]⟩) _ (alloc2 v2 p q p' q' ⟨#[118]⟩) (by simp [twoE]) HXX.out (by omega) HME.out).mono ?_
          rintro e v3 ⟨rfl, hbv3⟩
          have hbnv3 := bl_trans (bl_alloc (bl_refl v2) (.cells #[.int .i64 (p : Int), .int .i64 ((p : Int) + (q : Int)), .string ⟨#[117]⟩, .int .i64 (p' : Int), .int .i64 ((p' : Int) + (q' : Int)), .string ⟨#[118]⟩] 45)) hbv3
          have z1 := cell_later hbnv3 z1
          have z2 := cell_later hbnv3 z2
          have z3 := cell_later hbnv3 z3
          have y1 := cell_later hbnv3 y1
          have y2 := cell_later hbnv3 y2
          have y3 := cell_later hbnv3 y3
          have hbl := bl_trans hbl hbnv3
          have hsz : w.heap.size + 2 ≤ v3.heap.size := Nat.le_trans hsz hbnv3.size
          go_wp2_with fail
          refine (awake6_any _).mono ?_
          rintro e v4 ⟨rfl, hbv4⟩
          go_wp2
          go_ret
          exact ⟨rfl, bl_trans hbl hbv4⟩
        · have HME : Hid (mayE m (twoE p q p' q' ⟨#[118]⟩) = 0) := hide (by rw [HIN.out, HAP.out, if_pos rfl, if_neg (by have := sz1; omega)])
          clear HIN
          go_wp2_with fail
          refine (rapartm_any _ [((p : Int), (p : Int) + (q : Int)), ((p' : Int), (p' : Int) + (q' : Int))] _ _ (alloc2s Wc p q p' q') (by simp) HAP.out).mono ?_
          rintro e u1 ⟨rfl, hbu1⟩
          have hbnu := bl_trans (bl_alloc (bl_refl Wc) (.cells #[.int .i64 (p : Int), .int .i64 ((p : Int) + (q : Int)), .int .i64 (p' : Int), .int .i64 ((p' : Int) + (q' : Int))] 43)) hbu1
          have z1 := cell_later hbnu z1
          have z2 := cell_later hbnu z2
          have z3 := cell_later hbnu z3
          have y1 := cell_later hbnu y1
          have y2 := cell_later hbnu y2
          have y3 := cell_later hbnu y3
          have hbl := bl_trans hbl hbnu
          have hsz : w.heap.size + 2 ≤ u1.heap.size := Nat.le_trans hsz hbnu.size
          go_wp2
          go_quiet (fail)
          have hbq := bl_drewN (bl_refl u1) nq
          have hbl := bl_trans hbl hbq
          have hsz : w.heap.size + 2 ≤ (u1.drewN nq).heap.size := Nat.le_trans hsz hbq.size
          have z1 := cell_later hbq z1
          have z2 := cell_later hbq z2
          have z3 := cell_later hbq z3
          have y1 := cell_later hbq y1
          have y2 := cell_later hbq y2
          have y3 := cell_later hbq y3
          generalize u1.drewN nq = u2 at *
          have HXX : Hid (∀ e ∈ twoE p q p' q' ⟨#[118]⟩, e.2.size ≤ 70000) := hide (two_small p q p' q' ⟨#[118]⟩ (by decide))
          have HFI := hide (fine_of (by omega) HME.out)
          go_wp2_with fail
          refine (apply_fine (cut40 m) _ _ (twoE p q p' q' ⟨#[118]⟩) _ (alloc2 u2 p q p' q' ⟨#[118]⟩) (by simp [twoE]) HXX.out (by omega) (by rw [hcut]; exact HFI.out) rfl).mono ?_
          rintro e v1 ⟨rfl, hbv1⟩
          have hbnv1 := bl_trans (bl_alloc (bl_refl u2) (.cells #[.int .i64 (p : Int), .int .i64 ((p : Int) + (q : Int)), .string ⟨#[117]⟩, .int .i64 (p' : Int), .int .i64 ((p' : Int) + (q' : Int)), .string ⟨#[118]⟩] 45)) hbv1
          have z1 := cell_later hbnv1 z1
          have z2 := cell_later hbnv1 z2
          have z3 := cell_later hbnv1 z3
          have y1 := cell_later hbnv1 y1
          have y2 := cell_later hbnv1 y2
          have y3 := cell_later hbnv1 y3
          have hbl := bl_trans hbl hbnv1
          have hsz : w.heap.size + 2 ≤ v1.heap.size := Nat.le_trans hsz hbnv1.size
          generalize mkT (appR (bts (cut40 m)) (sortE (twoE p q p' q' ⟨#[118]⟩))) = TT at *
          go_wp2_with fail
          refine (back_fine (cut40 m) _ _ (twoE p q p' q' ⟨#[118]⟩) _ (alloc2 v1 p q p' q' ⟨#[118]⟩) (by simp [twoE]) HXX.out (by omega) (by rw [hcut]; exact HFI.out) rfl).mono ?_
          rintro e v2 ⟨vb, rfl, hbv2, hob⟩
          have hbnv2 := bl_trans (bl_alloc (bl_refl v1) (.cells #[.int .i64 (p : Int), .int .i64 ((p : Int) + (q : Int)), .string ⟨#[117]⟩, .int .i64 (p' : Int), .int .i64 ((p' : Int) + (q' : Int)), .string ⟨#[118]⟩] 45)) hbv2
          have z1 := cell_later hbnv2 z1
          have z2 := cell_later hbnv2 z2
          have z3 := cell_later hbnv2 z3
          have y1 := cell_later hbnv2 y1
          have y2 := cell_later hbnv2 y2
          have y3 := cell_later hbnv2 y3
          have hbl := bl_trans hbl hbnv2
          have hsz : w.heap.size + 2 ≤ v2.heap.size := Nat.le_trans hsz hbnv2.size
          clear hob
          go_wp2_with fail
          refine (may6e_any m 0 _ (twoE p q p' q' ⟨#[118]⟩) _ (alloc2 v2 p q p' q' ⟨#[118]⟩) (by simp [twoE]) HXX.out (by omega) HME.out).mono ?_
          rintro e v3 ⟨rfl, hbv3⟩
          have hbnv3 := bl_trans (bl_alloc (bl_refl v2) (.cells #[.int .i64 (p : Int), .int .i64 ((p : Int) + (q : Int)), .string ⟨#[117]⟩, .int .i64 (p' : Int), .int .i64 ((p' : Int) + (q' : Int)), .string ⟨#[118]⟩] 45)) hbv3
          have z1 := cell_later hbnv3 z1
          have z2 := cell_later hbnv3 z2
          have z3 := cell_later hbnv3 z3
          have y1 := cell_later hbnv3 y1
          have y2 := cell_later hbnv3 y2
          have y3 := cell_later hbnv3 y3
          have hbl := bl_trans hbl hbnv3
          have hsz : w.heap.size + 2 ≤ v3.heap.size := Nat.le_trans hsz hbnv3.size
          go_wp2_with fail
          refine (awake6_any _).mono ?_
          rintro e v4 ⟨rfl, hbv4⟩
          go_wp2
          go_ret
          exact ⟨rfl, bl_trans hbl hbv4⟩
      · have d2 : decide ((m : Int) < (p' : Int) + (q' : Int)) = true := by simp; omega
        have HME := hide (two_range m p q p' q' ⟨#[118]⟩ (fun h => hr2 h.2))
        have HXX : Hid (∀ e ∈ twoE p q p' q' ⟨#[118]⟩, e.2.size ≤ 70000) := hide (two_small p q p' q' ⟨#[118]⟩ (by decide))
        have hqr : (3 : Int) ≠ 0 := by decide
        go_wp2_with fail
        refine (apply_no (cut40 m) 3 _ (twoE p q p' q' ⟨#[118]⟩) _ (alloc2 Wc p q p' q' ⟨#[118]⟩) (by simp [twoE]) HXX.out (by omega) (by rw [hcut]; exact HME.out) hqr).mono ?_
        rintro e v1 ⟨rfl, hbv1⟩
        have hbnv1 := bl_trans (bl_alloc (bl_refl Wc) (.cells #[.int .i64 (p : Int), .int .i64 ((p : Int) + (q : Int)), .string ⟨#[117]⟩, .int .i64 (p' : Int), .int .i64 ((p' : Int) + (q' : Int)), .string ⟨#[118]⟩] 45)) hbv1
        have z1 := cell_later hbnv1 z1
        have z2 := cell_later hbnv1 z2
        have z3 := cell_later hbnv1 z3
        have y1 := cell_later hbnv1 y1
        have y2 := cell_later hbnv1 y2
        have y3 := cell_later hbnv1 y3
        have hbl := bl_trans hbl hbnv1
        have hsz : w.heap.size + 2 ≤ v1.heap.size := Nat.le_trans hsz hbnv1.size
        go_wp2_with fail
        refine (back_no (cut40 m) 3 _ (twoE p q p' q' ⟨#[118]⟩) _ (alloc2 v1 p q p' q' ⟨#[118]⟩) (by simp [twoE]) HXX.out (by omega) (by rw [hcut]; exact HME.out) hqr).mono ?_
        rintro e v2 ⟨rfl, hbv2⟩
        have hbnv2 := bl_trans (bl_alloc (bl_refl v1) (.cells #[.int .i64 (p : Int), .int .i64 ((p : Int) + (q : Int)), .string ⟨#[117]⟩, .int .i64 (p' : Int), .int .i64 ((p' : Int) + (q' : Int)), .string ⟨#[118]⟩] 45)) hbv2
        have z1 := cell_later hbnv2 z1
        have z2 := cell_later hbnv2 z2
        have z3 := cell_later hbnv2 z3
        have y1 := cell_later hbnv2 y1
        have y2 := cell_later hbnv2 y2
        have y3 := cell_later hbnv2 y3
        have hbl := bl_trans hbl hbnv2
        have hsz : w.heap.size + 2 ≤ v2.heap.size := Nat.le_trans hsz hbnv2.size
        go_wp2_with fail
        refine (may6e_any m 3 _ (twoE p q p' q' ⟨#[118]⟩) _ (alloc2 v2 p q p' q' ⟨#[118]⟩) (by simp [twoE]) HXX.out (by omega) HME.out).mono ?_
        rintro e v3 ⟨rfl, hbv3⟩
        have hbnv3 := bl_trans (bl_alloc (bl_refl v2) (.cells #[.int .i64 (p : Int), .int .i64 ((p : Int) + (q : Int)), .string ⟨#[117]⟩, .int .i64 (p' : Int), .int .i64 ((p' : Int) + (q' : Int)), .string ⟨#[118]⟩] 45)) hbv3
        have z1 := cell_later hbnv3 z1
        have z2 := cell_later hbnv3 z2
        have z3 := cell_later hbnv3 z3
        have y1 := cell_later hbnv3 y1
        have y2 := cell_later hbnv3 y2
        have y3 := cell_later hbnv3 y3
        have hbl := bl_trans hbl hbnv3
        have hsz : w.heap.size + 2 ≤ v3.heap.size := Nat.le_trans hsz hbnv3.size
        go_wp2_with fail
        refine (awake6_any _).mono ?_
        rintro e v4 ⟨rfl, hbv4⟩
        go_wp2
        go_ret
        exact ⟨rfl, bl_trans hbl hbv4⟩
    · have d1 : decide ((m : Int) < (p : Int) + (q : Int)) = true := by simp; omega
      have HME := hide (two_range m p q p' q' ⟨#[118]⟩ (fun h => hr1 h.1))
      have HXX : Hid (∀ e ∈ twoE p q p' q' ⟨#[118]⟩, e.2.size ≤ 70000) := hide (two_small p q p' q' ⟨#[118]⟩ (by decide))
      have hqr : (3 : Int) ≠ 0 := by decide
      go_wp2_with fail
      refine (apply_no (cut40 m) 3 _ (twoE p q p' q' ⟨#[118]⟩) _ (alloc2 Wc p q p' q' ⟨#[118]⟩) (by simp [twoE]) HXX.out (by omega) (by rw [hcut]; exact HME.out) hqr).mono ?_
      rintro e v1 ⟨rfl, hbv1⟩
      have hbnv1 := bl_trans (bl_alloc (bl_refl Wc) (.cells #[.int .i64 (p : Int), .int .i64 ((p : Int) + (q : Int)), .string ⟨#[117]⟩, .int .i64 (p' : Int), .int .i64 ((p' : Int) + (q' : Int)), .string ⟨#[118]⟩] 45)) hbv1
      have z1 := cell_later hbnv1 z1
      have z2 := cell_later hbnv1 z2
      have z3 := cell_later hbnv1 z3
      have y1 := cell_later hbnv1 y1
      have y2 := cell_later hbnv1 y2
      have y3 := cell_later hbnv1 y3
      have hbl := bl_trans hbl hbnv1
      have hsz : w.heap.size + 2 ≤ v1.heap.size := Nat.le_trans hsz hbnv1.size
      go_wp2_with fail
      refine (back_no (cut40 m) 3 _ (twoE p q p' q' ⟨#[118]⟩) _ (alloc2 v1 p q p' q' ⟨#[118]⟩) (by simp [twoE]) HXX.out (by omega) (by rw [hcut]; exact HME.out) hqr).mono ?_
      rintro e v2 ⟨rfl, hbv2⟩
      have hbnv2 := bl_trans (bl_alloc (bl_refl v1) (.cells #[.int .i64 (p : Int), .int .i64 ((p : Int) + (q : Int)), .string ⟨#[117]⟩, .int .i64 (p' : Int), .int .i64 ((p' : Int) + (q' : Int)), .string ⟨#[118]⟩] 45)) hbv2
      have z1 := cell_later hbnv2 z1
      have z2 := cell_later hbnv2 z2
      have z3 := cell_later hbnv2 z3
      have y1 := cell_later hbnv2 y1
      have y2 := cell_later hbnv2 y2
      have y3 := cell_later hbnv2 y3
      have hbl := bl_trans hbl hbnv2
      have hsz : w.heap.size + 2 ≤ v2.heap.size := Nat.le_trans hsz hbnv2.size
      go_wp2_with fail
      refine (may6e_any m 3 _ (twoE p q p' q' ⟨#[118]⟩) _ (alloc2 v2 p q p' q' ⟨#[118]⟩) (by simp [twoE]) HXX.out (by omega) HME.out).mono ?_
      rintro e v3 ⟨rfl, hbv3⟩
      have hbnv3 := bl_trans (bl_alloc (bl_refl v2) (.cells #[.int .i64 (p : Int), .int .i64 ((p : Int) + (q : Int)), .string ⟨#[117]⟩, .int .i64 (p' : Int), .int .i64 ((p' : Int) + (q' : Int)), .string ⟨#[118]⟩] 45)) hbv3
      have z1 := cell_later hbnv3 z1
      have z2 := cell_later hbnv3 z2
      have z3 := cell_later hbnv3 z3
      have y1 := cell_later hbnv3 y1
      have y2 := cell_later hbnv3 y2
      have y3 := cell_later hbnv3 y3
      have hbl := bl_trans hbl hbnv3
      have hsz : w.heap.size + 2 ≤ v3.heap.size := Nat.le_trans hsz hbnv3.size
      go_wp2_with fail
      refine (awake6_any _).mono ?_
      rintro e v4 ⟨rfl, hbv4⟩
      go_wp2
      go_ret
      exact ⟨rfl, bl_trans hbl hbv4⟩
  · go_wp2
    go_loopw [] (fun wr => LInv w p q p' q' wr) (fun wr => lmeas (wr.cell? ⟨w.heap.size + 1, 2, none⟩))
    case atStart => exact ⟨0, ⟨#[118]⟩, by omega, rfl, z1, z2, z3, y1, y2, y3, hfz, hbl, hsz⟩
    case round =>
      clear z1 z2 z3 y1 y2 y3 hfz hbl hsz
      obtain ⟨d, U, hd, hU, z1, z2, z3, y1, y2, y3, hfz, hbl, hsz⟩ := hrel
      by_cases hd6 : d = 16
      · subst hd6
        replace hU : U.size = 65536 := hU
        have d0 : decide ((U.size : Int) < 65536) = false := by simp; omega
        clear hfz
        by_cases hr1 : p + q ≤ m
        · have d1 : decide ((m : Int) < (p : Int) + (q : Int)) = false := by simp; omega
          by_cases hr2 : p' + q' ≤ m
          · have d2 : decide ((m : Int) < (p' : Int) + (q' : Int)) = false := by simp; omega
            have HIN := hide (two_in m p q p' q' U ⟨hr1, hr2⟩)
            cases ap
            · have HME : Hid (mayE m (twoE p q p' q' U) = 5) := hide (by rw [HIN.out, HAP.out]; rfl)
              clear HIN
              go_wp2_with fail
              refine (rapartm_any _ [((p : Int), (p : Int) + (q : Int)), ((p' : Int), (p' : Int) + (q' : Int))] _ _ (alloc2s wr p q p' q') (by simp) HAP.out).mono ?_
              rintro e u1 ⟨rfl, hbu1⟩
              have hbnu := bl_trans (bl_alloc (bl_refl wr) (.cells #[.int .i64 (p : Int), .int .i64 ((p : Int) + (q : Int)), .int .i64 (p' : Int), .int .i64 ((p' : Int) + (q' : Int))] 43)) hbu1
              have z1 := cell_later hbnu z1
              have z2 := cell_later hbnu z2
              have z3 := cell_later hbnu z3
              have y1 := cell_later hbnu y1
              have y2 := cell_later hbnu y2
              have y3 := cell_later hbnu y3
              have hbl := bl_trans hbl hbnu
              have hsz : w.heap.size + 2 ≤ u1.heap.size := Nat.le_trans hsz hbnu.size
              have HXX : Hid (∀ e ∈ twoE p q p' q' U, e.2.size ≤ 70000) := hide (two_small p q p' q' U (by omega))
              have hqr : (5 : Int) ≠ 0 := by decide
              go_wp2_with fail
              refine (apply_no (cut40 m) 5 _ (twoE p q p' q' U) _ (alloc2 u1 p q p' q' U) (by simp [twoE]) HXX.out (by omega) (by rw [hcut]; exact HME.out) hqr).mono ?_
              rintro e v1 ⟨rfl, hbv1⟩
              have hbnv1 := bl_trans (bl_alloc (bl_refl u1) (.cells #[.int .i64 (p : Int), .int .i64 ((p : Int) + (q : Int)), .string ⟨#[117]⟩, .int .i64 (p' : Int), .int .i64 ((p' : Int) + (q' : Int)), .string U] 45)) hbv1
              have z1 := cell_later hbnv1 z1
              have z2 := cell_later hbnv1 z2
              have z3 := cell_later hbnv1 z3
              have y1 := cell_later hbnv1 y1
              have y2 := cell_later hbnv1 y2
              have y3 := cell_later hbnv1 y3
              have hbl := bl_trans hbl hbnv1
              have hsz : w.heap.size + 2 ≤ v1.heap.size := Nat.le_trans hsz hbnv1.size
              go_wp2_with fail
              refine (back_no (cut40 m) 5 _ (twoE p q p' q' U) _ (alloc2 v1 p q p' q' U) (by simp [twoE]) HXX.out (by omega) (by rw [hcut]; exact HME.out) hqr).mono ?_
              rintro e v2 ⟨rfl, hbv2⟩
              have hbnv2 := bl_trans (bl_alloc (bl_refl v1) (.cells #[.int .i64 (p : Int), .int .i64 ((p : Int) + (q : Int)), .string ⟨#[117]⟩, .int .i64 (p' : Int), .int .i64 ((p' : Int) + (q' : Int)), .string U] 45)) hbv2
              have z1 := cell_later hbnv2 z1
              have z2 := cell_later hbnv2 z2
              have z3 := cell_later hbnv2 z3
              have y1 := cell_later hbnv2 y1
              have y2 := cell_later hbnv2 y2
              have y3 := cell_later hbnv2 y3
              have hbl := bl_trans hbl hbnv2
              have hsz : w.heap.size + 2 ≤ v2.heap.size := Nat.le_trans hsz hbnv2.size
              go_wp2_with fail
              refine (may6e_any m 5 _ (twoE p q p' q' U) _ (alloc2 v2 p q p' q' U) (by simp [twoE]) HXX.out (by omega) HME.out).mono ?_
              rintro e v3 ⟨rfl, hbv3⟩
              have hbnv3 := bl_trans (bl_alloc (bl_refl v2) (.cells #[.int .i64 (p : Int), .int .i64 ((p : Int) + (q : Int)), .string ⟨#[117]⟩, .int .i64 (p' : Int), .int .i64 ((p' : Int) + (q' : Int)), .string U] 45)) hbv3
              have z1 := cell_later hbnv3 z1
              have z2 := cell_later hbnv3 z2
              have z3 := cell_later hbnv3 z3
              have y1 := cell_later hbnv3 y1
              have y2 := cell_later hbnv3 y2
              have y3 := cell_later hbnv3 y3
              have hbl := bl_trans hbl hbnv3
              have hsz : w.heap.size + 2 ≤ v3.heap.size := Nat.le_trans hsz hbnv3.size
              go_wp2_with fail
              refine (awake6_any _).mono ?_
              rintro e v4 ⟨rfl, hbv4⟩
              go_wp2
              go_ret
              exact ⟨rfl, bl_trans hbl hbv4⟩
            · skip
              go_wp2_with fail
              refine (rapartm_any _ [((p : Int), (p : Int) + (q : Int)), ((p' : Int), (p' : Int) + (q' : Int))] _ _ (alloc2s wr p q p' q') (by simp) HAP.out).mono ?_
              rintro e u1 ⟨rfl, hbu1⟩
              have hbnu := bl_trans (bl_alloc (bl_refl wr) (.cells #[.int .i64 (p : Int), .int .i64 ((p : Int) + (q : Int)), .int .i64 (p' : Int), .int .i64 ((p' : Int) + (q' : Int))] 43)) hbu1
              have z1 := cell_later hbnu z1
              have z2 := cell_later hbnu z2
              have z3 := cell_later hbnu z3
              have y1 := cell_later hbnu y1
              have y2 := cell_later hbnu y2
              have y3 := cell_later hbnu y3
              have hbl := bl_trans hbl hbnu
              have hsz : w.heap.size + 2 ≤ u1.heap.size := Nat.le_trans hsz hbnu.size
              obtain ⟨c1, hc1⟩ : ∃ c : Int, (m : Int) - (q : Int) = c := ⟨_, rfl⟩
              obtain ⟨c2, hc2⟩ : ∃ c : Int, c1 - (q' : Int) = c := ⟨_, rfl⟩
              obtain ⟨c3, hc3⟩ : ∃ c : Int, c2 + 1 = c := ⟨_, rfl⟩
              have k1 : IntKind.i64.wrap ((m : Int) - (q : Int)) = c1 := by rw [IntWalk.i64_in _ (by omega)]; exact hc1
              have k2 : IntKind.i64.wrap (c1 - (q' : Int)) = c2 := by rw [IntWalk.i64_in _ (by omega)]; exact hc2
              have k3 : IntKind.i64.wrap (c2 + 1) = c3 := by rw [IntWalk.i64_in _ (by omega)]; exact hc3
              have HZ : Hid (c3 = (m : Int) - (q : Int) - (q' : Int) + 1) := hide (by omega)
              have hbig : 0 < c3 ∨ ¬ 0 < c3 := by omega
              clear hc1 hc2 hc3
              have hA1 : w.heap.size < u1.heap.size := by omega
              have hA2 : w.heap.size + 1 < u1.heap.size := by omega
              go_wp2
              refine wp_region_later (by kernel_rfl) (by kernel_rfl) ?_
              repeat (go_big_quiet_step (first | (go_at_call 30; first | exact later_call (slene_any ((p : Int), (p : Int) + (q : Int)) (q : Int) _ (by show _ ≤ (p : Int); omega) (by show (p : Int) ≤ _; omega) (by show _ ≤ (p : Int) + (q : Int); omega) (by show (p : Int) + (q : Int) ≤ _; omega) (by show (p : Int) + (q : Int) - (p : Int) = _; omega)) | exact later_call (slene_any ((p' : Int), (p' : Int) + (q' : Int)) (q' : Int) _ (by show _ ≤ (p' : Int); omega) (by show (p' : Int) ≤ _; omega) (by show _ ≤ (p' : Int) + (q' : Int); omega) (by show (p' : Int) + (q' : Int) ≤ _; omega) (by show (p' : Int) + (q' : Int) - (p' : Int) = _; omega))) | exact rfl))
              refine wpQuiet_nil ?_
              rintro u2 ⟨⟨_, hbu2⟩, rfl⟩
              have hbl := bl_trans hbl hbu2
              have hsz : w.heap.size + 2 ≤ u2.heap.size := Nat.le_trans hsz hbu2.size
              clear k1 k2 k3 hA1 hA2
              have z1 := cell_later hbu2 z1
              have z2 := cell_later hbu2 z2
              have z3 := cell_later hbu2 z3
              have y1 := cell_later hbu2 y1
              have y2 := cell_later hbu2 y2
              have y3 := cell_later hbu2 y3
              obtain ⟨bz, hbz⟩ : ∃ bz, decide (0 < c3) = bz := ⟨_, rfl⟩
              rw [hbz]
              have HBZ := hide hbz
              clear hbz hbig
              cases bz
              · have HME : Hid (mayE m (twoE p q p' q' U) = 0) := hide (by rw [HIN.out, HAP.out, if_pos rfl, if_neg (by have := hU; have := HZ.out; have := of_decide_eq_false HBZ.out; omega)])
                clear HIN HZ HBZ
                have HXX : Hid (∀ e ∈ twoE p q p' q' U, e.2.size ≤ 70000) := hide (two_small p q p' q' U (by omega))
                have HFI := hide (fine_of (by omega) HME.out)
                go_wp2_with fail
                refine (apply_fine (cut40 m) _ _ (twoE p q p' q' U) _ (alloc2 u2 p q p' q' U) (by simp [twoE]) HXX.out (by omega) (by rw [hcut]; exact HFI.out) rfl).mono ?_
                rintro e v1 ⟨rfl, hbv1⟩
                have hbnv1 := bl_trans (bl_alloc (bl_refl u2) (.cells #[.int .i64 (p : Int), .int .i64 ((p : Int) + (q : Int)), .string ⟨#[117]⟩, .int .i64 (p' : Int), .int .i64 ((p' : Int) + (q' : Int)), .string U] 45)) hbv1
                have z1 := cell_later hbnv1 z1
                have z2 := cell_later hbnv1 z2
                have z3 := cell_later hbnv1 z3
                have y1 := cell_later hbnv1 y1
                have y2 := cell_later hbnv1 y2
                have y3 := cell_later hbnv1 y3
                have hbl := bl_trans hbl hbnv1
                have hsz : w.heap.size + 2 ≤ v1.heap.size := Nat.le_trans hsz hbnv1.size
                generalize mkT (appR (bts (cut40 m)) (sortE (twoE p q p' q' U))) = TT at *
                go_wp2_with fail
                refine (back_fine (cut40 m) _ _ (twoE p q p' q' U) _ (alloc2 v1 p q p' q' U) (by simp [twoE]) HXX.out (by omega) (by rw [hcut]; exact HFI.out) rfl).mono ?_
                rintro e v2 ⟨vb, rfl, hbv2, hob⟩
                have hbnv2 := bl_trans (bl_alloc (bl_refl v1) (.cells #[.int .i64 (p : Int), .int .i64 ((p : Int) + (q : Int)), .string ⟨#[117]⟩, .int .i64 (p' : Int), .int .i64 ((p' : Int) + (q' : Int)), .string U] 45)) hbv2
                have z1 := cell_later hbnv2 z1
                have z2 := cell_later hbnv2 z2
                have z3 := cell_later hbnv2 z3
                have y1 := cell_later hbnv2 y1
                have y2 := cell_later hbnv2 y2
                have y3 := cell_later hbnv2 y3
                have hbl := bl_trans hbl hbnv2
                have hsz : w.heap.size + 2 ≤ v2.heap.size := Nat.le_trans hsz hbnv2.size
                clear hob
                go_wp2_with fail
                refine (may6e_any m 0 _ (twoE p q p' q' U) _ (alloc2 v2 p q p' q' U) (by simp [twoE]) HXX.out (by omega) HME.out).mono ?_
                rintro e v3 ⟨rfl, hbv3⟩
                have hbnv3 := bl_trans (bl_alloc (bl_refl v2) (.cells #[.int .i64 (p : Int), .int .i64 ((p : Int) + (q : Int)), .string ⟨#[117]⟩, .int .i64 (p' : Int), .int .i64 ((p' : Int) + (q' : Int)), .string U] 45)) hbv3
                have z1 := cell_later hbnv3 z1
                have z2 := cell_later hbnv3 z2
                have z3 := cell_later hbnv3 z3
                have y1 := cell_later hbnv3 y1
                have y2 := cell_later hbnv3 y2
                have y3 := cell_later hbnv3 y3
                have hbl := bl_trans hbl hbnv3
                have hsz : w.heap.size + 2 ≤ v3.heap.size := Nat.le_trans hsz hbnv3.size
                go_wp2_with fail
                refine (awake6_any _).mono ?_
                rintro e v4 ⟨rfl, hbv4⟩
                go_wp2
                go_ret
                exact ⟨rfl, bl_trans hbl hbv4⟩
              · have HME : Hid (mayE m (twoE p q p' q' U) = 4) := hide (by rw [HIN.out, HAP.out, if_pos rfl, if_pos (by have := hU; have := HZ.out; have := of_decide_eq_true HBZ.out; omega)])
                clear HIN HZ HBZ
                have HXX : Hid (∀ e ∈ twoE p q p' q' U, e.2.size ≤ 70000) := hide (two_small p q p' q' U (by omega))
                have hqr : (4 : Int) ≠ 0 := by decide
                go_wp2_with fail
                refine (apply_no (cut40 m) 4 _ (twoE p q p' q' U) _ (alloc2 u2 p q p' q' U) (by simp [twoE]) HXX.out (by omega) (by rw [hcut]; exact HME.out) hqr).mono ?_
                rintro e v1 ⟨rfl, hbv1⟩
                have hbnv1 := bl_trans (bl_alloc (bl_refl u2) (.cells #[.int .i64 (p : Int), .int .i64 ((p : Int) + (q : Int)), .string ⟨#[117]⟩, .int .i64 (p' : Int), .int .i64 ((p' : Int) + (q' : Int)), .string U] 45)) hbv1
                have z1 := cell_later hbnv1 z1
                have z2 := cell_later hbnv1 z2
                have z3 := cell_later hbnv1 z3
                have y1 := cell_later hbnv1 y1
                have y2 := cell_later hbnv1 y2
                have y3 := cell_later hbnv1 y3
                have hbl := bl_trans hbl hbnv1
                have hsz : w.heap.size + 2 ≤ v1.heap.size := Nat.le_trans hsz hbnv1.size
                go_wp2_with fail
                refine (back_no (cut40 m) 4 _ (twoE p q p' q' U) _ (alloc2 v1 p q p' q' U) (by simp [twoE]) HXX.out (by omega) (by rw [hcut]; exact HME.out) hqr).mono ?_
                rintro e v2 ⟨rfl, hbv2⟩
                have hbnv2 := bl_trans (bl_alloc (bl_refl v1) (.cells #[.int .i64 (p : Int), .int .i64 ((p : Int) + (q : Int)), .string ⟨#[117]⟩, .int .i64 (p' : Int), .int .i64 ((p' : Int) + (q' : Int)), .string U] 45)) hbv2
                have z1 := cell_later hbnv2 z1
                have z2 := cell_later hbnv2 z2
                have z3 := cell_later hbnv2 z3
                have y1 := cell_later hbnv2 y1
                have y2 := cell_later hbnv2 y2
                have y3 := cell_later hbnv2 y3
                have hbl := bl_trans hbl hbnv2
                have hsz : w.heap.size + 2 ≤ v2.heap.size := Nat.le_trans hsz hbnv2.size
                go_wp2_with fail
                refine (may6e_any m 4 _ (twoE p q p' q' U) _ (alloc2 v2 p q p' q' U) (by simp [twoE]) HXX.out (by omega) HME.out).mono ?_
                rintro e v3 ⟨rfl, hbv3⟩
                have hbnv3 := bl_trans (bl_alloc (bl_refl v2) (.cells #[.int .i64 (p : Int), .int .i64 ((p : Int) + (q : Int)), .string ⟨#[117]⟩, .int .i64 (p' : Int), .int .i64 ((p' : Int) + (q' : Int)), .string U] 45)) hbv3
                have z1 := cell_later hbnv3 z1
                have z2 := cell_later hbnv3 z2
                have z3 := cell_later hbnv3 z3
                have y1 := cell_later hbnv3 y1
                have y2 := cell_later hbnv3 y2
                have y3 := cell_later hbnv3 y3
                have hbl := bl_trans hbl hbnv3
                have hsz : w.heap.size + 2 ≤ v3.heap.size := Nat.le_trans hsz hbnv3.size
                go_wp2_with fail
                refine (awake6_any _).mono ?_
                rintro e v4 ⟨rfl, hbv4⟩
                go_wp2
                go_ret
                exact ⟨rfl, bl_trans hbl hbv4⟩
          · have d2 : decide ((m : Int) < (p' : Int) + (q' : Int)) = true := by simp; omega
            have HME := hide (two_range m p q p' q' U (fun h => hr2 h.2))
            have HXX : Hid (∀ e ∈ twoE p q p' q' U, e.2.size ≤ 70000) := hide (two_small p q p' q' U (by omega))
            have hqr : (3 : Int) ≠ 0 := by decide
            go_wp2_with fail
            refine (apply_no (cut40 m) 3 _ (twoE p q p' q' U) _ (alloc2 wr p q p' q' U) (by simp [twoE]) HXX.out (by omega) (by rw [hcut]; exact HME.out) hqr).mono ?_
            rintro e v1 ⟨rfl, hbv1⟩
            have hbnv1 := bl_trans (bl_alloc (bl_refl wr) (.cells #[.int .i64 (p : Int), .int .i64 ((p : Int) + (q : Int)), .string ⟨#[117]⟩, .int .i64 (p' : Int), .int .i64 ((p' : Int) + (q' : Int)), .string U] 45)) hbv1
            have z1 := cell_later hbnv1 z1
            have z2 := cell_later hbnv1 z2
            have z3 := cell_later hbnv1 z3
            have y1 := cell_later hbnv1 y1
            have y2 := cell_later hbnv1 y2
            have y3 := cell_later hbnv1 y3
            have hbl := bl_trans hbl hbnv1
            have hsz : w.heap.size + 2 ≤ v1.heap.size := Nat.le_trans hsz hbnv1.size
            go_wp2_with fail
            refine (back_no (cut40 m) 3 _ (twoE p q p' q' U) _ (alloc2 v1 p q p' q' U) (by simp [twoE]) HXX.out (by omega) (by rw [hcut]; exact HME.out) hqr).mono ?_
            rintro e v2 ⟨rfl, hbv2⟩
            have hbnv2 := bl_trans (bl_alloc (bl_refl v1) (.cells #[.int .i64 (p : Int), .int .i64 ((p : Int) + (q : Int)), .string ⟨#[117]⟩, .int .i64 (p' : Int), .int .i64 ((p' : Int) + (q' : Int)), .string U] 45)) hbv2
            have z1 := cell_later hbnv2 z1
            have z2 := cell_later hbnv2 z2
            have z3 := cell_later hbnv2 z3
            have y1 := cell_later hbnv2 y1
            have y2 := cell_later hbnv2 y2
            have y3 := cell_later hbnv2 y3
            have hbl := bl_trans hbl hbnv2
            have hsz : w.heap.size + 2 ≤ v2.heap.size := Nat.le_trans hsz hbnv2.size
            go_wp2_with fail
            refine (may6e_any m 3 _ (twoE p q p' q' U) _ (alloc2 v2 p q p' q' U) (by simp [twoE]) HXX.out (by omega) HME.out).mono ?_
            rintro e v3 ⟨rfl, hbv3⟩
            have hbnv3 := bl_trans (bl_alloc (bl_refl v2) (.cells #[.int .i64 (p : Int), .int .i64 ((p : Int) + (q : Int)), .string ⟨#[117]⟩, .int .i64 (p' : Int), .int .i64 ((p' : Int) + (q' : Int)), .string U] 45)) hbv3
            have z1 := cell_later hbnv3 z1
            have z2 := cell_later hbnv3 z2
            have z3 := cell_later hbnv3 z3
            have y1 := cell_later hbnv3 y1
            have y2 := cell_later hbnv3 y2
            have y3 := cell_later hbnv3 y3
            have hbl := bl_trans hbl hbnv3
            have hsz : w.heap.size + 2 ≤ v3.heap.size := Nat.le_trans hsz hbnv3.size
            go_wp2_with fail
            refine (awake6_any _).mono ?_
            rintro e v4 ⟨rfl, hbv4⟩
            go_wp2
            go_ret
            exact ⟨rfl, bl_trans hbl hbv4⟩
        · have d1 : decide ((m : Int) < (p : Int) + (q : Int)) = true := by simp; omega
          have HME := hide (two_range m p q p' q' U (fun h => hr1 h.1))
          have HXX : Hid (∀ e ∈ twoE p q p' q' U, e.2.size ≤ 70000) := hide (two_small p q p' q' U (by omega))
          have hqr : (3 : Int) ≠ 0 := by decide
          go_wp2_with fail
          refine (apply_no (cut40 m) 3 _ (twoE p q p' q' U) _ (alloc2 wr p q p' q' U) (by simp [twoE]) HXX.out (by omega) (by rw [hcut]; exact HME.out) hqr).mono ?_
          rintro e v1 ⟨rfl, hbv1⟩
          have hbnv1 := bl_trans (bl_alloc (bl_refl wr) (.cells #[.int .i64 (p : Int), .int .i64 ((p : Int) + (q : Int)), .string ⟨#[117]⟩, .int .i64 (p' : Int), .int .i64 ((p' : Int) + (q' : Int)), .string U] 45)) hbv1
          have z1 := cell_later hbnv1 z1
          have z2 := cell_later hbnv1 z2
          have z3 := cell_later hbnv1 z3
          have y1 := cell_later hbnv1 y1
          have y2 := cell_later hbnv1 y2
          have y3 := cell_later hbnv1 y3
          have hbl := bl_trans hbl hbnv1
          have hsz : w.heap.size + 2 ≤ v1.heap.size := Nat.le_trans hsz hbnv1.size
          go_wp2_with fail
          refine (back_no (cut40 m) 3 _ (twoE p q p' q' U) _ (alloc2 v1 p q p' q' U) (by simp [twoE]) HXX.out (by omega) (by rw [hcut]; exact HME.out) hqr).mono ?_
          rintro e v2 ⟨rfl, hbv2⟩
          have hbnv2 := bl_trans (bl_alloc (bl_refl v1) (.cells #[.int .i64 (p : Int), .int .i64 ((p : Int) + (q : Int)), .string ⟨#[117]⟩, .int .i64 (p' : Int), .int .i64 ((p' : Int) + (q' : Int)), .string U] 45)) hbv2
          have z1 := cell_later hbnv2 z1
          have z2 := cell_later hbnv2 z2
          have z3 := cell_later hbnv2 z3
          have y1 := cell_later hbnv2 y1
          have y2 := cell_later hbnv2 y2
          have y3 := cell_later hbnv2 y3
          have hbl := bl_trans hbl hbnv2
          have hsz : w.heap.size + 2 ≤ v2.heap.size := Nat.le_trans hsz hbnv2.size
          go_wp2_with fail
          refine (may6e_any m 3 _ (twoE p q p' q' U) _ (alloc2 v2 p q p' q' U) (by simp [twoE]) HXX.out (by omega) HME.out).mono ?_
          rintro e v3 ⟨rfl, hbv3⟩
          have hbnv3 := bl_trans (bl_alloc (bl_refl v2) (.cells #[.int .i64 (p : Int), .int .i64 ((p : Int) + (q : Int)), .string ⟨#[117]⟩, .int .i64 (p' : Int), .int .i64 ((p' : Int) + (q' : Int)), .string U] 45)) hbv3
          have z1 := cell_later hbnv3 z1
          have z2 := cell_later hbnv3 z2
          have z3 := cell_later hbnv3 z3
          have y1 := cell_later hbnv3 y1
          have y2 := cell_later hbnv3 y2
          have y3 := cell_later hbnv3 y3
          have hbl := bl_trans hbl hbnv3
          have hsz : w.heap.size + 2 ≤ v3.heap.size := Nat.le_trans hsz hbnv3.size
          go_wp2_with fail
          refine (awake6_any _).mono ?_
          rintro e v4 ⟨rfl, hbv4⟩
          go_wp2
          go_ret
          exact ⟨rfl, bl_trans hbl hbv4⟩
      · have hp1 : 2 ^ d ≤ 2 ^ 15 := Nat.pow_le_pow_right (by decide) (by omega)
        have hp0 : 0 < 2 ^ d := Nat.pow_pos (by decide)
        have hUl : U.size ≤ 32768 := by rw [hU]; exact hp1
        have hU0 : 0 < U.size := by omega
        have d0 : decide ((U.size : Int) < 65536) = true := by simp; omega
        have hn : (U ++ U).size = 2 ^ (d + 1) := by rw [ByteArray.size_append, hU, Nat.pow_succ]; omega
        have hn2 : (U ++ U).size = U.size + U.size := ByteArray.size_append
        have hfin : ∀ W', W' = wr.setCell ⟨w.heap.size + 1, 2, none⟩ (.string (U ++ U)) → LInv w p q p' q' W' ∧ lmeas (W'.cell? ⟨w.heap.size + 1, 2, none⟩) < lmeas (wr.cell? ⟨w.heap.size + 1, 2, none⟩) := by
          rintro W' rfl
          have q2 := World.cell?_setCell_same wr ⟨w.heap.size + 1, 2, none⟩ (Value.string (U ++ U)) y3
          have e1 : ∀ k v, wr.cell? ⟨w.heap.size, k, none⟩ = some v → (wr.setCell ⟨w.heap.size + 1, 2, none⟩ (.string (U ++ U))).cell? ⟨w.heap.size, k, none⟩ = some v := fun k v h => (World.cell?_setCell_other _ _ _ _ (by simp)).trans h
          have e2 : ∀ k v, k ≠ 2 → wr.cell? ⟨w.heap.size + 1, k, none⟩ = some v → (wr.setCell ⟨w.heap.size + 1, 2, none⟩ (.string (U ++ U))).cell? ⟨w.heap.size + 1, k, none⟩ = some v := fun k v hk h => (World.cell?_setCell_other _ _ _ _ (by simp; try omega)).trans h
          refine ⟨⟨d + 1, U ++ U, by omega, hn, e1 _ _ z1, e1 _ _ z2, e1 _ _ z3, e2 _ _ (by decide) y1, e2 _ _ (by decide) y2, q2, (World.frozen?_setCell _ _ _ _).trans hfz, bl_set hbl (Nat.le_succ _) _, by rw [World.size_setCell]; exact hsz⟩, ?_⟩
          rw [q2, y3]
          show 70000 - (U ++ U).size < 70000 - U.size
          omega
        have HFIN := hide hfin
        clear hfin hU hn hn2 hp1 hp0 hd hd6
        set_option maxRecDepth 100000 in go_wp2
        first
          | exact HFIN.out _ rfl
          | (refine ⟨(HFIN.out _ rfl).1, ?_⟩; have := (HFIN.out _ rfl).2; first | exact this | omega)

set_option maxRecDepth 100000 in
theorem lifted (os : Os) (started : os.Started) (H : Type) (enc : TypeId × Value → H) :
    ReturnsInHanded {} Try.checked os 10 .any (Rows.changeCodesSpec.pre6 enc Try.prog Try.f10 Rows.changeCodesRow.domain false) (Rows.changeCodesSpec.post enc Try.prog Try.f10 false true false false) := by
  refine returnsInHanded_of_change (C := Try.checked) own started (by kernel_rfl) Try.func10
    (ChangeSpec.witness6 (enc := enc) (C := Try.checked) false ⟨#[], #[.int .i64 0, .int .i64 0, .int .i64 0, .bool false], []⟩ 8 (by kernel_rfl) (by kernel_rfl) (by kernel_rfl) (by kernel_rfl)) ?_
  intro W base args ds gs before hval0 hW hcnd _
  have hval : ∀ (j : Nat) t v, Try.f10.params[j]? = some t → args[j]? = some v → Value.okWide Try.prog W .any base t v := hval0
  have hW' := hW
  obtain ⟨p, q, hA0, hV, rfl, hfz, hnd⟩ := hW
  have hA : DataW.TrodAll enc Try.prog W 0 (fun _ => true) true Try.f10.params.toList args.toList ds p := hA0
  rw [Try.params10] at hA hval
  obtain ⟨v0, vs0, d0, ds0, p0, q0, hargs, rfl, rfl, h0, r0⟩ := trodAll_cons hA
  obtain ⟨v1, vs1, d1, ds1, p1, q1, rfl, rfl, rfl, h1, r1⟩ := trodAll_cons r0
  obtain ⟨v2, vs2, d2, ds2, p2, q2, rfl, rfl, rfl, h2, r2⟩ := trodAll_cons r1
  obtain ⟨v3, vs3, d3, ds3, p3, q3, rfl, rfl, rfl, h3, r3⟩ := trodAll_cons r2
  obtain ⟨rfl, rfl, rfl⟩ := trodAll_nil r3
  obtain rfl : args = #[v0, v1, v2, v3] := by cases args; simp_all
  obtain ⟨rfl, rfl⟩ := trodVars_none hV
  have k0 := h0
  have lt0 : ∀ x ∈ p0, x.block < W.heap.size := by obtain ⟨m, hm⟩ := k0; exact DataW.trod_lt m _ _ _ hm
  obtain ⟨a0, rfl, hd0, hp0, w0⟩ := open_int Try.underlying3 (hval 0 3 v0 rfl rfl) h0
  have k1 := h1
  have lt1 : ∀ x ∈ p1, x.block < W.heap.size := by obtain ⟨m, hm⟩ := k1; exact DataW.trod_lt m _ _ _ hm
  obtain ⟨a1, rfl, hd1, hp1, w1⟩ := open_int Try.underlying3 (hval 1 3 v1 rfl rfl) h1
  have k2 := h2
  have lt2 : ∀ x ∈ p2, x.block < W.heap.size := by obtain ⟨m, hm⟩ := k2; exact DataW.trod_lt m _ _ _ hm
  obtain ⟨a2, rfl, hd2, hp2, w2⟩ := open_int Try.underlying3 (hval 2 3 v2 rfl rfl) h2
  have k3 := h3
  have lt3 : ∀ x ∈ p3, x.block < W.heap.size := by obtain ⟨m, hm⟩ := k3; exact DataW.trod_lt m _ _ _ hm
  obtain ⟨a3, rfl, hd3, hp3⟩ := open_bool Try.underlying4 (hval 3 4 v3 rfl rfl) h3
  clear hA0 hval0
  refine (walk a0 a1 a2 a3 W w0 w1 w2).mono fun e W' ⟨he, bel⟩ => ?_
  subst he
  exact ⟨_, rfl, _, _, _, [], _, [], hW', trodAll_mk1 (shut_bool Try.underlying4 _), (trodAll_cons_mk (Below.trod laidOut (by kernel_rfl) (of_decide_eq_true (by kernel_rfl)) k0 bel lt0) (trodAll_cons_mk (Below.trod laidOut (by kernel_rfl) (of_decide_eq_true (by kernel_rfl)) k1 bel lt1) (trodAll_cons_mk (Below.trod laidOut (by kernel_rfl) (of_decide_eq_true (by kernel_rfl)) k2 bel lt2) (trodAll_cons_mk (Below.trod laidOut (by kernel_rfl) (of_decide_eq_true (by kernel_rfl)) k3 bel lt3) trodAll_mk0)))), rfl, bel.frame _, fun h => by cases h⟩

theorem over : Rows.changeCodesRow.holds Try.pinned (OpenSpec.ofChange Rows.changeCodesSpec) :=
  OpenClaim.holds_of_wide 10 Try.f10 rfl rfl rfl rfl rfl rfl rfl ⟨rfl, rfl, rfl, rfl, rfl⟩ rfl rfl rfl rfl rfl (by kernel_rfl) Try.func10 (by kernel_rfl)
    (of_decide_eq_true (by kernel_rfl)) (by unfold Func.isWrapper; first | (rw [if_pos (by decide +kernel)]; kernel_rfl) | (rw [if_neg (by decide +kernel)]; exact ⟨rfl, rfl⟩))
    (fun os started H enc _ => lifted os started H enc)

theorem proved : Rows.ChangeCodesSaid := over
end Go.Proofs.Ytbaaciekjpadfaa.changeCodes
