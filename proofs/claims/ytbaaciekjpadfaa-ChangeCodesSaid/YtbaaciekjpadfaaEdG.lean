/- Contract of Apply: the text behind edits. Conditions: at most 20 edits of short texts, a short text. -/
import Derived.Test.YtbaaciekjpadfaaEdF
namespace Go.Proofs.Ytbaaciekjpadfaa
open Go.ChangeShapes Go.WideShapes Go.ChangeAt Go.RowKit
open SpanM EdM
attribute [local go_sem ↓] Go.wp_at_zero Go.wp_at_succ
attribute [local go_sem] later_cell later_frozen
set_option maxRecDepth 100000 in
set_option maxHeartbeats 2000000 in
theorem apply_no (s : ByteArray) (r : Int) (v : Value) (l : List Ed) (w : World) (h : EdAt w v l) (hl : l.length ≤ 20) (hx : ∀ e ∈ l, e.2.size ≤ 70000) (hs : s.size ≤ 1000000) (hr : mayE s.size l = r) (h0 : r ≠ 0) :
    Calls Try.prog 15 #[.string s, v] w fun e w' => e = .returned (.tuple #[.string ⟨#[]⟩, .int .i64 r]) ∧ Below w.heap.size w w' := by
  have H := hide h
  have HR := hide hr
  have HX := hide hx
  have hne : (r != 0) = true := by simp [h0]
  clear h hr h0 hx
  go_enter Try.func15, Try.ntmps15
  go_wp2_with fail
  refine (may6e_any s.size r v l _ H.out (by omega) HX.out (by omega) HR.out).mono ?_
  rintro e w1 ⟨rfl, hb1⟩
  go_wp2
  go_ret2
  exact ⟨rfl, hb1⟩
/-- What a round of Apply's loop keeps. -/
def ApInv (s : Bs) (S : List Ed) (v : Value) (wb : World) (a i : Value) (wr : World) : Prop :=
  ∃ (k : Nat) (at' : Int) (acc : Bs), i = .int .i64 k ∧ k ≤ S.length ∧ a = .int .i64 at' ∧ 0 ≤ at' ∧ Chain s.length at' (S.drop k) ∧ acc.length ≤ 70000 ∧ Hid (acc ++ appL s at' (S.drop k) = appL s 0 S) ∧
    Lib.BuilderAtF 61 5 wb.heap.size wb.heap.size (.pointer (some ⟨wb.heap.size, 0, none⟩)) (Lib.byteCells acc) wr ∧ SrcE wb.heap.size wr v S ∧ Below wb.heap.size wb wr
set_option maxRecDepth 100000 in
set_option maxHeartbeats 4000000 in
theorem apply_yes (s : ByteArray) (v : Value) (l : List Ed) (w : World) (h : EdAt w v l) (hl : l.length ≤ 20) (hx : ∀ e ∈ l, e.2.size ≤ 70000) (hs : s.size ≤ 1000000) (hf : Fine s.size l) (hlt0 : ∀ b o n c, v = .slice (some ⟨b, o, none⟩) n c → 0 < l.length → b < w.heap.size) :
    Calls Try.prog 15 #[.string s, v] w fun e w' => e = .returned (.tuple #[.string (mkT (appR (bts s) (sortE l))), .int .i64 0]) ∧ Below w.heap.size w w' := by
  have hf' : Fine (bts s).length l := by rw [bts_len]; exact hf
  have hgl := fine_len hf'
  have hgd : ∀ e ∈ l, GoodD e := fun e he => by
    have := hf.mem e he
    exact ⟨by omega, by omega, hx e he⟩
  obtain ⟨gn, hgn⟩ : ∃ gn : Nat, grown s.size l = gn := ⟨(appR (bts s) (sortE l)).length, by rw [hgl, bts_len]⟩
  have hgn2 : gn ≤ 65536 := by have := hf.size; omega
  have hlen : (appR (bts s) (sortE l)).length = gn := by rw [bts_len] at hgl; omega
  have hch := hf'.chain
  have hLR := appR_L (bts s) (sortE l) hch
  have H := hide h
  have HR := hide (fine_code hf)
  have HX := hide hx
  have HG := hide hgd
  have HGN := hide hgn
  have HLT := hide hlt0
  have HCH := hide hch
  have HSL := hide (sortE_len l)
  have hord := fun B W hh hB hBw => inorder2_any B v l W hh hl hB hBw
  obtain ⟨S, hS⟩ : ∃ S, sortE l = S := ⟨_, rfl⟩
  rw [hS] at hord hLR hlen HCH HSL ⊢
  have HORD := hide hord
  have HLR := hide hLR
  have HLEN := hide hlen
  clear h hx hgd hgn hlt0 hch hf hf' hgl hord hLR hlen hS
  have hSl : S.length ≤ 20 := by have := HSL.out; omega
  go_enter Try.func15, Try.ntmps15
  go_wp2_with fail
  refine (may6e_any s.size 0 v l _ H.out (by omega) HX.out (by omega) HR.out).mono ?_
  rintro e w1 ⟨rfl, hb1⟩
  have hfr := heap_alloc_new w1 (.cells #[.pointer none, .slice none 0 0] 61)
  have HA1 := hide (edat_below H.out (bl_trans hb1 (bl_alloc (bl_refl w1) (.cells #[.pointer none, .slice none 0 0] 61))))
  have hab : Below w1.heap.size w1 (w1.alloc (.cells #[.pointer none, .slice none 0 0] 61)) := bl_alloc (bl_refl w1) _
  go_wp2_with fail
  refine (growne_any s.size gn v l _ HA1.out (by omega) HG.out (by omega) HGN.out).mono ?_
  rintro e w2 ⟨rfl, hb2⟩
  have hfr2 := (hb2.block w1.heap.size (by simp)).trans hfr
  have hbw2 : Below w1.heap.size w1 w2 := bl_trans hab hb2
  go_wp2_with fail
  refine (bl_grow6 w1.heap.size w1.heap.size gn _ (Nat.le_refl _) hfr2 hbw2.size (by omega)).mono ?_
  rintro e w3 ⟨rfl, hB3, hb3⟩
  have hbw3 : Below w1.heap.size w1 w3 := hbw2.trans hb3
  have HA3 := hide (edat_below H.out (bl_trans hb1 hbw3))
  go_wp2_with fail
  refine (HORD.out w1.heap.size _ HA3.out (fun b o n c hv hp => by have := HLT.out b o n c hv hp; have := hb1.size; omega) hbw3.size).mono ?_
  rintro e w4 ⟨v4, rfl, hb4, hs4⟩
  have hbw4 : Below w1.heap.size w1 w4 := bl_trans hbw3 hb4
  have hB4 : Lib.BuilderAtF 61 5 w1.heap.size w1.heap.size (.pointer (some ⟨w1.heap.size, 0, none⟩)) (Lib.byteCells []) w4 := by
    obtain ⟨h1, q, h2, h3, h4⟩ := hB3
    exact Lib.BuilderAtF.of ⟨h1, q, (hb4.block _ (by have := hb3.size; have := (Array.getElem?_eq_some_iff.1 hfr2).1; omega)).trans h2, own_below h3 hb4, h4⟩
  obtain ⟨a4, c4, rfl⟩ := edat_len (srcE_at hs4)
  have hst : ApInv (bts s) S (.slice a4 S.length c4) w1 (.int .i64 0) (.int .i64 0) w4 :=
    ⟨0, 0, [], rfl, Nat.zero_le _, rfl, Int.le_refl _, HCH.out, by simp, hide rfl, hB4, hs4, hbw4⟩
  have HST := hide hst
  clear hst hB4 hs4 hbw4 hb4 HA3 HA1 hB3 hb3 hbw3 hfr2 hbw2 hb2 hfr hab HR HG HGN HORD HLT HX H HCH
  go_wp2
  go_loopw [8, 26] (fun a i wr => ApInv (bts s) S (.slice a4 S.length c4) w1 a i wr) (fun _ i _ => S.length - (intOf i).toNat)
  case atStart => exact HST.out
  case round =>
    obtain ⟨k, at', acc, rfl, hk, rfl, hat, hch, hac, HJ, hB, hsrc, hbl⟩ := hrel
    by_cases hlt : k < S.length
    · obtain ⟨b1, o1, c1, hv1, hc1, hm1, hlb1, hcell1⟩ := edat_some (srcE_at hsrc) (by omega)
      injection hv1 with hv1 _ hv1c
      subst hv1 hv1c
      unfold maxLen at hm1
      obtain ⟨x1, x2, x3⟩ := hcell1 k hlt
      have hinv := appL_snoc_inv (bts s) S k hlt at' acc HJ.out
      have hch2 := hch
      rw [List.drop_eq_getElem_cons hlt] at hch2
      obtain ⟨q1, q2, q3⟩ := hch2
      have q4 := chain_le q3
      rw [bts_len] at q4
      have hle : ((acc ++ ((bts s).take S[k].1.1.toNat).drop at'.toNat ++ tx S[k]) ++ appL (bts s) S[k].1.2 (S.drop (k + 1))).length ≤ 65536 := by
        rw [hinv, ← HLR.out, HLEN.out]; exact hgn2
      have hle2 : (acc ++ ((bts s).take S[k].1.1.toNat).drop at'.toNat ++ tx S[k]).length ≤ 70000 := by rw [List.length_append] at hle; omega
      have HSRC := hide hsrc
      clear hcell1 hch hle hsrc HJ HST
      obtain ⟨e0, he0⟩ : ∃ e0, S[k] = e0 := ⟨_, rfl⟩
      rw [he0] at hinv q1 q2 q3 q4 hle2 x1 x2 x3
      clear he0
      obtain ⟨⟨f, t⟩, x⟩ := e0
      replace q1 : at' ≤ f := q1
      replace q2 : f ≤ t := q2
      replace q3 : Chain (bts s).length t (S.drop (k + 1)) := q3
      replace q4 : t ≤ s.size := q4
      have hinv2 : (acc ++ bts (s.extract at'.toNat f.toNat) ++ bts x) ++ appL (bts s) t (S.drop (k + 1)) = appL (bts s) 0 S := by rw [bts_ext]; exact hinv
      have hle3 : (acc ++ bts (s.extract at'.toNat f.toNat) ++ bts x).length ≤ 70000 := by rw [bts_ext]; exact hle2
      have HINV := hide hinv2
      have HQ3 := hide q3
      clear hinv hinv2 q3 hle2
      have hle4 : acc.length + (s.extract at'.toNat f.toNat).size ≤ 70000 := by
        rw [List.length_append, List.length_append, bts_len, bts_len] at hle3; omega
      have hle5 : acc.length + (s.extract at'.toNat f.toNat).size + x.size ≤ 70000 := by
        rw [List.length_append, List.length_append, bts_len, bts_len] at hle3; omega
      have HLE3 := hide hle3
      clear hle3
      obtain ⟨y, hy⟩ : ∃ y, s.extract at'.toNat f.toNat = y := ⟨_, rfl⟩
      rw [hy] at hle4 hle5 HINV HLE3
      have HY := hide hy
      clear hy
      have hf0 : (0 : Int) ≤ f := by omega
      have hf1 : f ≤ (s.size : Int) := by omega
      have hbA := hB.alloc (.cells #[.int .i64 f, .int .i64 t, .string x] 45)
      have hsA := srcE_below HSRC.out (bl_alloc (bl_refl wr) (.cells #[.int .i64 f, .int .i64 t, .string x] 45))
      have hlA : Below w1.heap.size w1 (wr.alloc (.cells #[.int .i64 f, .int .i64 t, .string x] 45)) := hbl.alloc hbl.size _
      have y1 := World.cell?_alloc_mark wr #[.int .i64 f, .int .i64 t, .string x] 45 (0, 0) 1
      have y2 := World.cell?_alloc_mark wr #[.int .i64 f, .int .i64 t, .string x] 45 (0, 0) 2
      have yb := heap_alloc_new wr (.cells #[.int .i64 f, .int .i64 t, .string x] 45)
      have hHB := hide hbA
      have hHS := hide hsA
      clear hbA hsA hB HSRC
      go_wp2_with fail
      refine (bl_strk w1.heap.size w1.heap.size _ (s.extract at'.toNat f.toNat) _ (.inr hHB.out) (by rw [byteCells_len, HY.out]; omega) hlA.size).mono ?_
      rintro e w5 ⟨rfl, hB5, hb5, hk5⟩
      rw [HY.out, ← byteCells_str] at hB5
      obtain ⟨qb, hqb⟩ := builder_block hHB.out
      have hs5 := srcE_kept hHS.out hb5 hk5 hqb
      have hwl : w1.heap.size < wr.heap.size := by
        obtain ⟨qc, hqc⟩ := builder_block hHB.out
        by_cases hh : w1.heap.size < wr.heap.size
        · exact hh
        · have h1 := hbl.size
          have h2 : w1.heap.size = wr.heap.size := by omega
          rw [h2, yb] at hqc
          injection hqc with hqc
          injection hqc with _ hqc _
          exact absurd hqc (by decide)
      have yb5 := hk5 _ _ yb (fun e => by injection e with e; omega) (fun c fz e => by injection e with _ e _; exact absurd e (by decide))
      have z1 : w5.cell? ⟨wr.heap.size, 1, none⟩ = some (.int .i64 t) := by simp [World.cell?, yb5]
      have z2 : w5.cell? ⟨wr.heap.size, 2, none⟩ = some (.string x) := by simp [World.cell?, yb5]
      have hl5 : Below w1.heap.size w1 w5 := hlA.trans hb5
      have hHB5 := hide hB5
      have hHS5 := hide hs5
      clear hB5 hs5 hHB hHS hqb hk5 hb5 y1 y2 yb hlA
      go_wp2_with fail
      refine (bl_strk w1.heap.size w1.heap.size _ x _ (.inr hHB5.out) (by rw [byteCells_len, List.length_append, bts_len]; omega) hl5.size).mono ?_
      rintro e w6 ⟨rfl, hB6, hb6, hk6⟩
      rw [← byteCells_str] at hB6
      obtain ⟨qb, hqb⟩ := builder_block hHB5.out
      have hs6 := srcE_kept hHS5.out hb6 hk6 hqb
      have yb6 := hk6 _ _ yb5 (fun e => by injection e with e; omega) (fun c fz e => by injection e with _ e _; exact absurd e (by decide))
      have z3 : w6.cell? ⟨wr.heap.size, 1, none⟩ = some (.int .i64 t) := by simp [World.cell?, yb6]
      have hend : ApInv (bts s) S (.slice (some ⟨b1, o1, none⟩) S.length c4) w1 (.int .i64 t) (.int .i64 ((k : Int) + 1)) w6 :=
        ⟨k + 1, t, _, by go_num, by omega, rfl, by omega, HQ3.out, HLE3.out, hide HINV.out, hB6, hs6, hl5.trans hb6⟩
      have HEND := hide hend
      clear hend hB6 hs6 hqb hk6 hb6 hHB5 hHS5 yb5 yb6 z1 z2 HINV HQ3 HLE3 HY
      go_wp2
      refine ⟨?_, by first | (simp [intOf]; done) | (simp [intOf]; omega)⟩
      exact HEND.out
    · obtain rfl : k = S.length := by omega
      rw [List.drop_length] at hch HJ
      have hat2 : at' ≤ (s.size : Int) := by have := chain_le hch; rw [bts_len] at this; exact this
      have hJ2 : acc ++ bts (s.extract at'.toNat s.size) = appR (bts s) S := by
        rw [bts_ext, HLR.out, ← HJ.out]
        have : (bts s).take s.size = bts s := List.take_of_length_le (by rw [bts_len]; exact Nat.le_refl _)
        rw [this]; rfl
      have hle : acc.length + (s.extract at'.toNat s.size).size ≤ 70000 := by
        have := congrArg List.length hJ2
        rw [HLEN.out, List.length_append, bts_len] at this
        omega
      have HJ2 := hide hJ2
      have HHB := hide hB
      have hbs := hbl.size
      clear hJ2 hB HST HJ hch hsrc
      go_wp2_with fail
      refine (bl_strk w1.heap.size w1.heap.size _ (s.extract at'.toNat s.size) _ (.inr HHB.out) (by rw [byteCells_len]; omega) hbs).mono ?_
      rintro e w5 ⟨rfl, hB5, hb5, hk5⟩
      rw [← byteCells_str, HJ2.out] at hB5
      have hl5 : Below w1.heap.size w1 w5 := hbl.trans hb5
      have hHB5 := hide hB5
      clear hB5 hk5 HHB HJ2
      go_wp2_with fail
      refine (bl_stringk w1.heap.size w1.heap.size _ _ (.inr hHB5.out) hl5.size).mono ?_
      rintro e w6 ⟨rfl, hb6⟩
      go_wp2
      go_ret2
      exact ⟨rfl, bl_trans hb1 (hl5.trans hb6)⟩
end Go.Proofs.Ytbaaciekjpadfaa
