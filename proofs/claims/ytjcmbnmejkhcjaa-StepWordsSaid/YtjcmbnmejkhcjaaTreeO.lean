/- A tree of pieces: upto. Condition: a text that is not too long; a way from 0 to 3, a count that is not below 0. -/
import Derived.Test.YtjcmbnmejkhcjaaTreeL
import Derived.Test.YtjcmbnmejkhcjaaTreeK
namespace Go.Proofs.Ytjcmbnmejkhcjaa
open Go.ChangeShapes Go.WideShapes Go.ChangeAt Go.RowKit
attribute [local go_sem ↓] Go.wp_at_zero Go.wp_at_succ
attribute [local go_sem] later_cell later_frozen
set_option maxRecDepth 100000
theorem bytal3 (l : List UInt8) (way : Int) (w : World) :
    Calls Try.prog 36 #[.agg #[.int .i64 l.length, .int .i64 (nBrk l), .int .i64 (nRun l), .int .i64 (nBig l + nRun l)], .int .i64 way] w fun e w' => e = .returned (.int .i64 (cnt way l)) ∧ Below w.heap.size w w' := bytal_any l way w
set_option maxHeartbeats 8000000 in
theorem tupto_any (way : Int) (hw : 0 ≤ way ∧ way ≤ 3) (t : T) : ∀ (m : Int) (w : World), t.At w → t.text.length ≤ 1000000 → 0 ≤ m → m ≤ 9223372036854775807 →
    Calls Try.prog 83 #[.pointer t.addr, .int .i64 way, .int .i64 m] w fun e w' => e = .returned (.int .i64 (upL way t.text m)) ∧ Below w.heap.size w w' := by
  induction t with
  | nil =>
    intro m w _ _ _ _
    rw [show (upL way T.nil.text m) = 0 from by simp [T.text, upL]]
    go_enter Try.func83, Try.ntmps83
    go_wp2
    go_ret
    exact ⟨rfl, bl_refl _⟩
  | node l n x p r ihl ihr =>
    intro m w ht hlen hm0 hm1
    obtain ⟨hn, hl, hr⟩ := ht
    have htx : (T.node l n x p r).text = l.text ++ (x.data.toList ++ r.text) := rfl
    have hnw : n < w.heap.size := (Array.getElem?_eq_some_iff.1 hn).1
    obtain ⟨S, hS⟩ : ∃ S, (T.node l n x p r).text = S := ⟨_, rfl⟩
    rw [hS] at hn hlen ⊢
    rw [show (T.node l n x p r).addr = some ⟨n, 0, none⟩ from rfl]
    have hsum : S.length = l.text.length + (x.size + r.text.length) := by rw [← hS, htx, List.length_append, List.length_append]; rfl
    have c0 : w.cell? ⟨n, 0, none⟩ = some (.int .i64 S.length) := by rw [Lib.cell_of_heap hn]; rfl
    have c1 : w.cell? ⟨n, 1, none⟩ = some (.int .i64 (nBrk S)) := by rw [Lib.cell_of_heap hn]; rfl
    have c2 : w.cell? ⟨n, 2, none⟩ = some (.int .i64 (nRun S)) := by rw [Lib.cell_of_heap hn]; rfl
    have c3 : w.cell? ⟨n, 3, none⟩ = some (.int .i64 (nBig S + nRun S)) := by rw [Lib.cell_of_heap hn]; rfl
    have c4 : w.cell? ⟨n, 4, none⟩ = some (.string x) := by rw [Lib.cell_of_heap hn]; rfl
    have c5 : w.cell? ⟨n, 5, none⟩ = some (.int .i64 x.size) := by rw [Lib.cell_of_heap hn]; rfl
    have c6 : w.cell? ⟨n, 6, none⟩ = some (.int .i64 (nBrk x.data.toList)) := by rw [Lib.cell_of_heap hn]; rfl
    have c7 : w.cell? ⟨n, 7, none⟩ = some (.int .i64 (nRun x.data.toList)) := by rw [Lib.cell_of_heap hn]; rfl
    have c8 : w.cell? ⟨n, 8, none⟩ = some (.int .i64 (nBig x.data.toList + nRun x.data.toList)) := by rw [Lib.cell_of_heap hn]; rfl
    have c10 : w.cell? ⟨n, 10, none⟩ = some (.pointer l.addr) := by rw [Lib.cell_of_heap hn]; rfl
    have c11 : w.cell? ⟨n, 11, none⟩ = some (.pointer r.addr) := by rw [Lib.cell_of_heap hn]; rfl
    have HS := hide (show S = l.text ++ (x.data.toList ++ r.text) from hS.symm)
    have HL := hide hl
    have HR := hide hr
    have HBY := hide (fun W => bytal3 S way W)
    obtain ⟨cw, hcw⟩ : ∃ cw, cnt way S = cw := ⟨_, rfl⟩
    have hb := cnt_bd way S
    have bl1 := cnt_bd way l.text
    have bx1 := cnt_bd way x.data.toList
    have hxs : x.data.toList.length = x.size := rfl
    rw [hcw] at HBY hb
    have HCW := hide hcw
    clear hn hl hr htx hS hcw
    by_cases h1 : cw ≤ m
    · have g1 : decide (cw ≤ m) = true := decide_eq_true h1
      rw [upL_all way S m (by rw [HCW.out]; exact h1)]
      clear h1 hsum ihl ihr hxs bl1 bx1
      go_enter Try.func83, Try.ntmps83
      go_wp2_with fail
      refine (HBY.out _).mono ?_
      rintro e w1 ⟨rfl, hb1⟩
      have c0 := cell_later hb1 c0
      go_wp2
      go_ret
      exact ⟨rfl, hb1⟩
    · have g1 : decide (cw ≤ m) = false := decide_eq_false h1
      obtain ⟨cl, hcl⟩ : ∃ cl, cnt way l.text = cl := ⟨_, rfl⟩
      have HAL := hide (fun W (hb : Below w.heap.size w W) => tall_any l W (HL.out.later l hb))
      have HBL := hide (fun W => bytal3 l.text way W)
      rw [hcl] at HBL bl1
      have hrw : IntKind.i64.wrap (m - cl) = m - cl := IntWalk.i64_in _ (by omega)
      by_cases h2 : m - cl < 0
      · have g2 : decide (m - cl < 0) = true := decide_eq_true h2
        rw [HS.out, upL_lo way l.text _ m hm0 (by rw [hcl]; omega)]
        have HI := hide (fun W (hb : Below w.heap.size w W) => ihl m W (HL.out.later l hb) (by omega) hm0 hm1)
        clear hsum ihl ihr hxs bx1 h1 h2 hcl
        go_enter Try.func83, Try.ntmps83
        go_wp2_with fail
        refine (HBY.out _).mono ?_
        rintro e w1 ⟨rfl, hb1⟩
        have c10 := cell_later hb1 c10
        go_wp2_with fail
        refine (HAL.out _ hb1).mono ?_
        unfold talOf
        rintro e w2 ⟨rfl, hb2⟩
        have hb2 := bl_trans hb1 hb2
        go_wp2_with fail
        refine (HBL.out _).mono ?_
        rintro e w3 ⟨rfl, hb3⟩
        have hb3 := bl_trans hb2 hb3
        have c10 := (hb3.cell (p := ⟨n, 10, none⟩) hnw).trans ‹w.cell? ⟨n, 10, none⟩ = _›
        go_wp2_with fail
        refine (HI.out _ hb3).mono ?_
        rintro e w4 ⟨rfl, hb4⟩
        go_wp2
        go_ret
        exact ⟨rfl, bl_trans hb3 hb4⟩
      · have g2 : decide (m - cl < 0) = false := decide_eq_false h2
        have HSZ := hide (fun W (hb : Below w.heap.size w W) => tsize_any l W (HL.out.later l hb))
        have HBX := hide (fun W => bytal3 x.data.toList way W)
        rw [hxs] at HBX bx1
        obtain ⟨cx, hcx⟩ : ∃ cx, cnt way x.data.toList = cx := ⟨_, rfl⟩
        rw [hcx] at HBX bx1
        have C5 := hide c5
        have C6 := hide c6
        have C7 := hide c7
        have C8 := hide c8
        have C10 := hide c10
        obtain ⟨A, hA⟩ : ∃ A, l.text.length = A := ⟨_, rfl⟩
        rw [hA] at HSZ hsum
        obtain ⟨q, hq⟩ : ∃ q, m - cl = q := ⟨_, rfl⟩
        have hq1 : q ≤ 9223372036854775807 := by omega
        have hrw2 := hrw.trans hq
        clear hrw
        rw [hq] at h2 g2
        by_cases h3 : q < cx
        · have g3 : decide (q < cx) = true := decide_eq_true h3
          have hup : upto way q x.data.toList = (upL way x.data.toList q : Nat) := by unfold upto; rw [if_neg (by omega)]
          have HU := upto_any x way q
          rw [hup] at HU
          obtain ⟨u, hu⟩ : ∃ u, upL way x.data.toList q = u := ⟨_, rfl⟩
          have hub : u ≤ x.size := by rw [← hu, ← hxs]; exact upL_le _ _ _
          have hval : upL way S m = A + u := by rw [HS.out, upL_hi way l.text _ m (by omega), hcl, hA, hq, upL_lo way x.data.toList _ q (by omega) (by rw [hcx]; exact h3), hu]
          rw [hval]
          rw [hu] at HU
          have HUP := hide (fun W => HU W (by omega) hq1)
          have hAu : A + u ≤ 1000000 := by omega
          clear hsum ihl ihr hxs h1 hcl hcx hA hq hup hu hval HU hub
          go_enter Try.func83, Try.ntmps83
          go_wp2_with fail
          refine (HBY.out _).mono ?_
          rintro e w1 ⟨rfl, hb1⟩
          have c10 := cell_later hb1 c10
          go_wp2_with fail
          refine (HAL.out _ hb1).mono ?_
          unfold talOf
          rintro e w2 ⟨rfl, hb2⟩
          have hb2 := bl_trans hb1 hb2
          go_wp2_with fail
          refine (HBL.out _).mono ?_
          rintro e w3 ⟨rfl, hb3⟩
          have hb3 := bl_trans hb2 hb3
          have c5 := cell_later hb3 c5
          have c6 := cell_later hb3 c6
          have c7 := cell_later hb3 c7
          have c8 := cell_later hb3 c8
          go_wp2_with fail
          refine (HBX.out _).mono ?_
          rintro e w4 ⟨rfl, hb4⟩
          have hb4 := bl_trans hb3 hb4
          have hn4 : n < w4.heap.size := Nat.lt_of_lt_of_le hnw hb4.size
          have c10 := (hb4.cell (p := ⟨n, 10, none⟩) hnw).trans C10.out
          have c4 := (hb4.cell (p := ⟨n, 4, none⟩) hnw).trans c4
          have c11 := (hb4.cell (p := ⟨n, 11, none⟩) hnw).trans c11
          have c5 := (hb4.cell (p := ⟨n, 5, none⟩) hnw).trans C5.out
          have c6 := (hb4.cell (p := ⟨n, 6, none⟩) hnw).trans C6.out
          have c7 := (hb4.cell (p := ⟨n, 7, none⟩) hnw).trans C7.out
          have c8 := (hb4.cell (p := ⟨n, 8, none⟩) hnw).trans C8.out
          go_wp2
          refine wp_region_later (by kernel_rfl) (by kernel_rfl) ?_
          repeat (go_big_quiet_step (first
            | (go_at_call 45; exact later_call_same (HSZ.out _ (bl_trans hb4 (Later.below _))))
            | (go_at_call 82; exact later_call (HUP.out _))
            | exact rfl))
          refine wpQuiet_nil ?_
          rintro w9 ⟨⟨_, hb9⟩, rfl⟩
          go_wp2
          go_ret
          exact ⟨ret_int (by omega), bl_trans hb4 hb9⟩
        · have g3 : decide (q < cx) = false := decide_eq_false h3
          have hqw : IntKind.i64.wrap (q - cx) = q - cx := IntWalk.i64_in _ (by omega)
          obtain ⟨u, hu⟩ : ∃ u, upL way r.text (q - cx) = u := ⟨_, rfl⟩
          have hub : u ≤ r.text.length := by rw [← hu]; exact upL_le _ _ _
          have hval : upL way S m = A + (x.size + u) := by rw [HS.out, upL_hi way l.text _ m (by omega), hcl, hA, hq, upL_hi way x.data.toList _ q (by omega), hcx, hxs, hu]
          rw [hval]
          have HI := hide (fun W (hb : Below w.heap.size w W) => ihr (q - cx) W (HR.out.later r hb) (by omega) (by omega) (by omega))
          rw [hu] at HI
          have hAu : A + (x.size + u) ≤ 1000000 := by omega
          clear hsum ihl ihr hxs h1 hcl hcx hA hq hu hval hub
          go_enter Try.func83, Try.ntmps83
          go_wp2_with fail
          refine (HBY.out _).mono ?_
          rintro e w1 ⟨rfl, hb1⟩
          have c10 := cell_later hb1 c10
          go_wp2_with fail
          refine (HAL.out _ hb1).mono ?_
          unfold talOf
          rintro e w2 ⟨rfl, hb2⟩
          have hb2 := bl_trans hb1 hb2
          go_wp2_with fail
          refine (HBL.out _).mono ?_
          rintro e w3 ⟨rfl, hb3⟩
          have hb3 := bl_trans hb2 hb3
          have c5 := cell_later hb3 c5
          have c6 := cell_later hb3 c6
          have c7 := cell_later hb3 c7
          have c8 := cell_later hb3 c8
          go_wp2_with fail
          refine (HBX.out _).mono ?_
          rintro e w4 ⟨rfl, hb4⟩
          have hb4 := bl_trans hb3 hb4
          have hn4 : n < w4.heap.size := Nat.lt_of_lt_of_le hnw hb4.size
          have c10 := (hb4.cell (p := ⟨n, 10, none⟩) hnw).trans C10.out
          have c4 := (hb4.cell (p := ⟨n, 4, none⟩) hnw).trans c4
          have c11 := (hb4.cell (p := ⟨n, 11, none⟩) hnw).trans c11
          have c5 := (hb4.cell (p := ⟨n, 5, none⟩) hnw).trans C5.out
          have c6 := (hb4.cell (p := ⟨n, 6, none⟩) hnw).trans C6.out
          have c7 := (hb4.cell (p := ⟨n, 7, none⟩) hnw).trans C7.out
          have c8 := (hb4.cell (p := ⟨n, 8, none⟩) hnw).trans C8.out
          go_wp2
          refine wp_region_later (by kernel_rfl) (by kernel_rfl) ?_
          repeat (go_big_quiet_step (first
            | (go_at_call 45; exact later_call_same (HSZ.out _ (bl_trans hb4 (Later.below _))))
            | (go_at_call 83; exact later_call (HI.out _ (bl_trans hb4 (Later.below _))))
            | (go_at_call 36; exact later_call (HBX.out _))
            | exact rfl))
          refine wpQuiet_nil ?_
          rintro w9 ⟨⟨_, hb9⟩, rfl⟩
          go_wp2
          go_ret
          exact ⟨ret_int (by omega), bl_trans hb4 hb9⟩
end Go.Proofs.Ytjcmbnmejkhcjaa
