/- A tree of pieces: count: the counts of the text ahead of an offset. Condition: a text that is not too long. -/
import Derived.Test.YtjcmbnmejkhcjaaTreeC
namespace Go.Proofs.Ytjcmbnmejkhcjaa
open Go.ChangeShapes Go.WideShapes Go.ChangeAt Go.RowKit
attribute [local go_sem ↓] Go.wp_at_zero Go.wp_at_succ
set_option maxRecDepth 100000
theorem plusT (w : World) (L M S : List UInt8) (hS : S = L ++ M) (hn : S.length ≤ 1000000) :
    Calls Try.prog 79 #[talOf L, talOf M] w fun e w' => e = .returned (talOf S) ∧ Below w.heap.size w w' := by
  refine (plus_any _ _ _ _ _ _ _ _ w).mono ?_
  rintro e w' ⟨rfl, hb⟩
  refine ⟨?_, hb⟩
  subst hS
  rw [List.length_append] at hn
  have l1 := bd_all L (by omega)
  have l3 := bd_all M (by omega)
  unfold talOf
  rw [w64n _ (by omega), w64n (nBrk L + nBrk M) (by omega), w64n (nRun L + nRun M) (by omega), w64n (nBig L + nRun L + (nBig M + nRun M)) (by omega), nBrk_app, nRun_app, nBig_app, List.length_append,
    show nBig L + nRun L + (nBig M + nRun M) = nBig L + nBig M + (nRun L + nRun M) by omega, show (((L.length + M.length : Nat)) : Int) = (L.length : Int) + (M.length : Int) by omega]
/-- The block of a result that is being made. -/
def ResAt (w : World) (b : Nat) : Prop := ∃ q0 q1 q2 q3 : Int, w.heap[b]? = some (.cells #[.int .i64 q0, .int .i64 q1, .int .i64 q2, .int .i64 q3] 66 (0, 0))
theorem ResAt.bl {w w' : World} {b : Nat} (h : ResAt w b) (hb : Below w.heap.size w w') : ResAt w' b := by
  obtain ⟨q0, q1, q2, q3, h⟩ := h
  exact ⟨q0, q1, q2, q3, (hb.block b (Array.getElem?_eq_some_iff.1 h).1).trans h⟩
theorem ResAt.set4 {w : World} {b : Nat} (h : ResAt w b) (u0 u1 u2 u3 : Int) : ResAt ((((w.setCell ⟨b, 0, none⟩ (.int .i64 u0)).setCell ⟨b, 1, none⟩ (.int .i64 u1)).setCell ⟨b, 2, none⟩ (.int .i64 u2)).setCell ⟨b, 3, none⟩ (.int .i64 u3)) b := by
  obtain ⟨q0, q1, q2, q3, h⟩ := h
  exact ⟨u0, u1, u2, u3, heap_setN (heap_setN (heap_setN (heap_setN h 0 _) 1 _) 2 _) 3 _⟩
theorem res_top {w : World} {n : Nat} (h : ResAt w n) :
    (∃ q0 q1 q2 q3 : Int, w.cell? ⟨n, 0, none⟩ = some (.int .i64 q0) ∧ w.cell? ⟨n, 1, none⟩ = some (.int .i64 q1) ∧ w.cell? ⟨n, 2, none⟩ = some (.int .i64 q2) ∧ w.cell? ⟨n, 3, none⟩ = some (.int .i64 q3)) ∧ w.frozen? ⟨n, 0, none⟩ = false ∧ w.frozen? ⟨n, 1, none⟩ = false ∧ w.frozen? ⟨n, 2, none⟩ = false ∧ w.frozen? ⟨n, 3, none⟩ = false := by
  obtain ⟨q0, q1, q2, q3, h⟩ := h
  refine ⟨⟨q0, q1, q2, q3, ?_, ?_, ?_, ?_⟩, ?_, ?_, ?_, ?_⟩
  · rw [Lib.cell_of_heap h]; rfl
  · rw [Lib.cell_of_heap h]; rfl
  · rw [Lib.cell_of_heap h]; rfl
  · rw [Lib.cell_of_heap h]; rfl
  all_goals simp [World.frozen?, h]
theorem take_lo (A B : List UInt8) (k : Nat) (h : k ≤ A.length) : (A ++ B).take k = A.take k := List.take_append_of_le_length h
theorem take_mid (A B C : List UInt8) (k : Nat) (h : A.length ≤ k) (h2 : k ≤ A.length + B.length) : (A ++ (B ++ C)).take k = A ++ B.take (k - A.length) := by
  rw [List.take_append, List.take_of_length_le h, List.take_append_of_le_length (by omega)]
theorem take_hi (A B C : List UInt8) (k : Nat) (h2 : A.length + B.length ≤ k) : (A ++ (B ++ C)).take k = A ++ (B ++ C.take (k - A.length - B.length)) := by
  rw [List.take_append, List.take_of_length_le (by omega), List.take_append, List.take_of_length_le (by omega)]
set_option maxHeartbeats 8000000 in
theorem tcount_any (t : T) : ∀ (k : Nat) (w : World), t.At w → t.text.length ≤ 1000000 → k ≤ t.text.length →
    Calls Try.prog 61 #[.pointer t.addr, .int .i64 k] w fun e w' => e = .returned (talOf (t.text.take k)) ∧ Below w.heap.size w w' := by
  induction t with
  | nil =>
    intro k w _ _ _
    rw [show (T.nil.text.take k) = [] from by simp [T.text]]
    go_enter Try.func61, Try.ntmps61
    go_wp2
    refine bodyPost_ret (v := .agg #[.int .i64 0, .int .i64 0, .int .i64 0, .int .i64 0]) (by simp [results, Try.results61, go_sem]) rfl ⟨rfl, ?_⟩
    first | exact bl_alloc (bl_refl _) _ | exact bl_alloc (bl_alloc (bl_refl _) _) _ | exact (by repeat (first | exact bl_refl _ | assumption | refine bl_alloc ?_ _ | refine bl_drewN ?_ _ | refine bl_drew ?_ | refine bl_trans ?_ (by assumption)))
  | node l n x p r ihl ihr =>
    intro k w ht hlen hk
    obtain ⟨hn, hl, hr⟩ := ht
    have htx : (T.node l n x p r).text = l.text ++ (x.data.toList ++ r.text) := rfl
    have hnw : n < w.heap.size := (Array.getElem?_eq_some_iff.1 hn).1
    rw [htx] at hlen hk ⊢
    rw [show (T.node l n x p r).addr = some ⟨n, 0, none⟩ from rfl]
    have hsum : (l.text ++ (x.data.toList ++ r.text)).length = l.text.length + (x.size + r.text.length) := by rw [List.length_append, List.length_append]; rfl
    rw [hsum] at hlen hk
    have c4 : w.cell? ⟨n, 4, none⟩ = some (.string x) := by rw [Lib.cell_of_heap hn]; rfl
    have c5 : w.cell? ⟨n, 5, none⟩ = some (.int .i64 x.size) := by rw [Lib.cell_of_heap hn]; rfl
    have c6 : w.cell? ⟨n, 6, none⟩ = some (.int .i64 (nBrk x.data.toList)) := by rw [Lib.cell_of_heap hn]; rfl
    have c7 : w.cell? ⟨n, 7, none⟩ = some (.int .i64 (nRun x.data.toList)) := by rw [Lib.cell_of_heap hn]; rfl
    have c8 : w.cell? ⟨n, 8, none⟩ = some (.int .i64 (nBig x.data.toList + nRun x.data.toList)) := by rw [Lib.cell_of_heap hn]; rfl
    have c10 : w.cell? ⟨n, 10, none⟩ = some (.pointer l.addr) := by rw [Lib.cell_of_heap hn]; rfl
    have c11 : w.cell? ⟨n, 11, none⟩ = some (.pointer r.addr) := by rw [Lib.cell_of_heap hn]; rfl
    have HSZ := hide (fun W (hb : Below w.heap.size w W) => tsize_any l W (hl.later l hb))
    have HL := hide hl
    have HR := hide hr
    have HSUM := hide hsum
    clear hn hl hr htx hsum
    obtain ⟨A, hA⟩ : ∃ A, l.text.length = A := ⟨_, rfl⟩
    have HIL := hide (fun W (hb : Below w.heap.size w W) (hkA : k ≤ l.text.length) => ihl k W (HL.out.later l hb) (by omega) hkA)
    have HIR := hide (fun W (hb : Below w.heap.size w W) (j : Nat) (hj : j ≤ r.text.length) => ihr j W (HR.out.later r hb) (by omega) hj)
    rw [hA] at HSZ hlen hk
    have HA := hide hA
    clear hA ihl ihr
    by_cases h1 : k ≤ A
    · have g1 : decide (k ≤ A) = true := decide_eq_true h1
      have hh := take_lo l.text (x.data.toList ++ r.text) k (by rw [HA.out]; exact h1)
      rw [hh]
      have HI := hide (HIL.out _ (bl_alloc (bl_refl w) (.cells #[.int .i64 0, .int .i64 0, .int .i64 0, .int .i64 0] 66)) (by rw [HA.out]; exact h1))
      clear hh HIL HIR h1
      go_enter Try.func61, Try.ntmps61
      go_wp2_with fail
      refine (HSZ.out _ (bl_alloc (bl_refl w) _)).mono ?_
      rintro e w1 ⟨rfl, hw1⟩
      subst hw1
      go_wp2_with fail
      refine HI.out.mono ?_
      unfold talOf
      rintro e w2 ⟨rfl, hb2⟩
      have hres : ResAt w2 w.heap.size := ResAt.bl ⟨0, 0, 0, 0, heap_alloc_new w _⟩ hb2
      have hbb := bl_trans (bl_alloc (bl_refl w) (.cells #[.int .i64 0, .int .i64 0, .int .i64 0, .int .i64 0] 66)) hb2
      obtain ⟨⟨q0, q1, q2, q3, s0, s1, s2, s3⟩, f0, f1, f2, f3⟩ := res_top hres
      clear hres
      go_wp2
      refine bodyPost_ret (v := talOf (l.text.take k)) (by simp [results, Try.results61, go_sem, talOf, *]) rfl ⟨rfl, ?_⟩
      exact bl_set (bl_set (bl_set (bl_set hbb (Nat.le_refl _) _) (Nat.le_refl _) _) (Nat.le_refl _) _) (Nat.le_refl _) _
    · have g1 : decide (k ≤ A) = false := decide_eq_false h1
      have H1 := hide h1
      have hb00 := bl_alloc (bl_refl w) (.cells #[.int .i64 0, .int .i64 0, .int .i64 0, .int .i64 0] 66)
      have hres0 : ResAt (w.alloc (.cells #[.int .i64 0, .int .i64 0, .int .i64 0, .int .i64 0] 66)) w.heap.size := ⟨0, 0, 0, 0, heap_alloc_new w _⟩
      have d4 := cell_later hb00 c4
      have d5 := cell_later hb00 c5
      have d6 := cell_later hb00 c6
      have d7 := cell_later hb00 c7
      have d8 := cell_later hb00 c8
      have d10 := cell_later hb00 c10
      have d11 := cell_later hb00 c11
      by_cases h2 : k < A + x.size
      · have hh := take_mid l.text x.data.toList r.text k (by rw [HA.out]; omega) (by rw [HA.out]; show k ≤ A + x.size; omega)
        rw [HA.out] at hh
        obtain ⟨j, hj⟩ : ∃ j, k - A = j := ⟨_, rfl⟩
        rw [hj] at hh
        have hjx : j ≤ x.size := by omega
        have b0 : (0 : Int) ≤ (j : Int) := by omega
        have b1 : (j : Int) ≤ (x.size : Int) := by omega
        have g2 : decide ((k : Int) < (A : Int) + (x.size : Int)) = true := decide_eq_true (by omega)
        have hkw : IntKind.i64.wrap ((k : Int) - (A : Int)) = (j : Int) := by rw [show (k : Int) - (A : Int) = (j : Int) by omega]; exact IntWalk.i64_in _ (by omega)
        obtain ⟨S, hS⟩ : ∃ S, (l.text ++ (x.data.toList ++ r.text)).take k = S := ⟨_, rfl⟩
        obtain ⟨M, hM⟩ : ∃ M, x.data.toList.take j = M := ⟨_, rfl⟩
        rw [hM] at hh
        have HS := hide (show S = l.text ++ M by rw [← hS, hh])
        have HSL := hide (show S.length ≤ 1000000 by rw [← hS]; simp; omega)
        rw [hS]
        have HO := hide (fun W => of_any (x.extract 0 j) W (by rw [ByteArray.size_extract]; omega))
        rw [show (x.extract 0 j).data.toList = x.data.toList.take j from by simp, hM] at HO
        have HHK := hide hk
        clear hh hS HIL HIR h1 h2 hj hk hM
        go_enter Try.func61, Try.ntmps61
        go_wp2_with fail
        refine (HSZ.out _ (bl_alloc (bl_refl w) _)).mono ?_
        rintro e w1 ⟨rfl, hw1⟩
        subst hw1
        clear HSZ c4 c5 c6 c7 c8 c10 c11 d5 d6 d7 d8 d11 HR HSUM H1
        generalize w.alloc (Obj.cells #[Value.int IntKind.i64 0, Value.int IntKind.i64 0, Value.int IntKind.i64 0, Value.int IntKind.i64 0] 66) = W1 at *
        go_wp2
        go_region_held3 (fun w' => (Below w.heap.size w w' ∧ ResAt w' w.heap.size) ∧ w'.cell? ⟨n, 4, none⟩ = some (.string x) ∧ w'.cell? ⟨n, 10, none⟩ = some (.pointer l.addr))
          ((((try go_split_ands); ((repeat' apply And.intro) <;> first | (with_reducible assumption) | (with_reducible exact cell_later hb1 (by with_reducible assumption)) | (with_reducible exact cell_later (bl_drew (bl_refl _)) (by with_reducible assumption)) | (with_reducible exact cell_later (bl_alloc (bl_refl _) _) (by with_reducible assumption)) | (with_reducible exact bl_drew (by with_reducible assumption)) | (with_reducible exact bl_alloc (by with_reducible assumption) _) | (with_reducible exact ResAt.bl (by with_reducible assumption) (bl_drew (bl_refl _))) | (with_reducible exact ResAt.bl (by with_reducible assumption) (bl_alloc (bl_refl _) _)) | (with_reducible exact bl_set (bl_set (bl_set (bl_set (by with_reducible assumption) (Nat.le_refl _) _) (Nat.le_refl _) _) (Nat.le_refl _) _) (Nat.le_refl _) _) | (with_reducible exact ResAt.set4 (by with_reducible assumption) _ _ _ _) | (go_simp; done)))))
          (first
            | (go_at_call 78; go_split_ands; refine (tall_any l _ (HL.out.later l (by with_reducible assumption : Below w.heap.size w _))).mono ?_; unfold talOf; rintro e w1 ⟨rfl, hb1⟩; have hbz := bl_trans (by with_reducible assumption : Below w.heap.size w _) hb1; have hoz := ResAt.bl (by with_reducible assumption : ResAt _ w.heap.size) hb1)
            | (go_at_call 80; go_split_ands; refine (HO.out _).mono ?_; unfold talOf; rintro e w1 ⟨rfl, hb1⟩; have hbz := bl_trans (by with_reducible assumption : Below w.heap.size w _) hb1; have hoz := ResAt.bl (by with_reducible assumption : ResAt _ w.heap.size) hb1)
            | (go_at_call 79; go_split_ands; refine (plusT _ l.text M S HS.out HSL.out).mono ?_; unfold talOf; rintro e w1 ⟨rfl, hb1⟩; have hby := bl_trans (by with_reducible assumption : Below w.heap.size w _) hb1; have hoy := ResAt.bl (by with_reducible assumption : ResAt _ w.heap.size) hb1; obtain ⟨⟨q0, q1, q2, q3, s0, s1, s2, s3⟩, f0, f1, f2, f3⟩ := res_top hoy)
            | fail)
        all_goals
          go_wp2
          refine bodyPost_ret (v := talOf (S)) (by simp [results, Try.results61, go_sem, talOf, *]) rfl ⟨rfl, ?_⟩
          exact bl_set (bl_set (bl_set (bl_set hby (Nat.le_refl _) _) (Nat.le_refl _) _) (Nat.le_refl _) _) (Nat.le_refl _) _
      · have hh := take_hi l.text x.data.toList r.text k (by rw [HA.out]; show A + x.size ≤ k; omega)
        rw [HA.out, show x.data.toList.length = x.size from rfl] at hh
        obtain ⟨j, hj⟩ : ∃ j, k - A - x.size = j := ⟨_, rfl⟩
        rw [hj] at hh
        have hjr : j ≤ r.text.length := by omega
        have g2 : decide ((k : Int) < (A : Int) + (x.size : Int)) = false := decide_eq_false (by omega)
        have hkw : IntKind.i64.wrap ((k : Int) - ((A : Int) + (x.size : Int))) = (j : Int) := by rw [show (k : Int) - ((A : Int) + (x.size : Int)) = (j : Int) by omega]; exact IntWalk.i64_in _ (by omega)
        obtain ⟨S, hS⟩ : ∃ S, (l.text ++ (x.data.toList ++ r.text)).take k = S := ⟨_, rfl⟩
        obtain ⟨M, hM⟩ : ∃ M, r.text.take j = M := ⟨_, rfl⟩
        rw [hM] at hh
        have HS := hide (show S = l.text ++ (x.data.toList ++ M) by rw [← hS, hh])
        have HSL := hide (show S.length ≤ 1000000 by rw [← hS]; simp; omega)
        rw [hS]
        have HI := hide (fun W (hb : Below w.heap.size w W) => HIR.out W hb j hjr)
        rw [hM] at HI
        have HHK := hide hk
        clear hh hS HIL HIR h1 h2 hj hk hM hjr
        go_enter Try.func61, Try.ntmps61
        go_wp2_with fail
        refine (HSZ.out _ (bl_alloc (bl_refl w) _)).mono ?_
        rintro e w1 ⟨rfl, hw1⟩
        subst hw1
        clear HSZ c4 c5 c6 c7 c8 c10 c11 HR HSUM H1
        generalize w.alloc (Obj.cells #[Value.int IntKind.i64 0, Value.int IntKind.i64 0, Value.int IntKind.i64 0, Value.int IntKind.i64 0] 66) = W1 at *
        go_wp2
        go_region_held3 (fun w' => (Below w.heap.size w w' ∧ ResAt w' w.heap.size) ∧ w'.cell? ⟨n, 5, none⟩ = some (.int .i64 x.size) ∧ w'.cell? ⟨n, 6, none⟩ = some (.int .i64 (nBrk x.data.toList)) ∧ w'.cell? ⟨n, 7, none⟩ = some (.int .i64 (nRun x.data.toList)) ∧ w'.cell? ⟨n, 8, none⟩ = some (.int .i64 (nBig x.data.toList + nRun x.data.toList)) ∧ w'.cell? ⟨n, 10, none⟩ = some (.pointer l.addr) ∧ w'.cell? ⟨n, 11, none⟩ = some (.pointer r.addr))
          ((((try go_split_ands); ((repeat' apply And.intro) <;> first | (with_reducible assumption) | (with_reducible exact cell_later hb1 (by with_reducible assumption)) | (with_reducible exact cell_later (bl_drew (bl_refl _)) (by with_reducible assumption)) | (with_reducible exact cell_later (bl_alloc (bl_refl _) _) (by with_reducible assumption)) | (with_reducible exact bl_drew (by with_reducible assumption)) | (with_reducible exact bl_alloc (by with_reducible assumption) _) | (with_reducible exact ResAt.bl (by with_reducible assumption) (bl_drew (bl_refl _))) | (with_reducible exact ResAt.bl (by with_reducible assumption) (bl_alloc (bl_refl _) _)) | (with_reducible exact bl_set (bl_set (bl_set (bl_set (by with_reducible assumption) (Nat.le_refl _) _) (Nat.le_refl _) _) (Nat.le_refl _) _) (Nat.le_refl _) _) | (with_reducible exact ResAt.set4 (by with_reducible assumption) _ _ _ _) | (go_simp; done)))))
          (first
            | (go_at_call 78; go_split_ands; refine (tall_any l _ (HL.out.later l (by with_reducible assumption : Below w.heap.size w _))).mono ?_; unfold talOf; rintro e w1 ⟨rfl, hb1⟩; have hbz := bl_trans (by with_reducible assumption : Below w.heap.size w _) hb1; have hoz := ResAt.bl (by with_reducible assumption : ResAt _ w.heap.size) hb1)
            | (go_at_call 61; go_split_ands; refine (HI.out _ (by with_reducible assumption : Below w.heap.size w _)).mono ?_; unfold talOf; rintro e w1 ⟨rfl, hb1⟩; have hbz := bl_trans (by with_reducible assumption : Below w.heap.size w _) hb1; have hoz := ResAt.bl (by with_reducible assumption : ResAt _ w.heap.size) hb1)
            | (go_at_call 81; go_split_ands; refine (fold3 _ _ l.text x M S HS.out HSL.out (fun j u hu => lit_at _ _ _ j u hu)).mono ?_; unfold talOf; rintro e w1 ⟨rfl, hb1⟩; have hby := bl_trans (by with_reducible assumption : Below w.heap.size w _) hb1; have hoy := ResAt.bl (by with_reducible assumption : ResAt _ w.heap.size) hb1; obtain ⟨⟨q0, q1, q2, q3, s0, s1, s2, s3⟩, f0, f1, f2, f3⟩ := res_top hoy)
            | fail)
        all_goals
          go_wp2
          refine bodyPost_ret (v := talOf (S)) (by simp [results, Try.results61, go_sem, talOf, *]) rfl ⟨rfl, ?_⟩
          exact bl_set (bl_set (bl_set (bl_set hby (Nat.le_refl _) _) (Nat.le_refl _) _) (Nat.le_refl _) _) (Nat.le_refl _) _
end Go.Proofs.Ytjcmbnmejkhcjaa
