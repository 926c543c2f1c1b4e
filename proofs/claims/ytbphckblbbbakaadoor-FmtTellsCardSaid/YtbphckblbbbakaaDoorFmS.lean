/- Contracts: a format's reader: a text up to an end, a way to turn. Condition: a text that is not too long. -/
import Derived.Test.YtbphckblbbbakaaDoorSpotD
import Derived.Laws.ResultCell
namespace Go.Proofs.YtbphckblbbbakaaDoor
open Go.ChangeShapes Go.WideShapes Go.ChangeAt Go.RowKit
attribute [local go_sem ↓] Go.wp_at_zero Go.wp_at_succ
set_option maxRecDepth 100000
set_option linter.unusedVariables false
/-- Of a reader only its place and the ends that were looked for in vain have changed. -/
structure Rdr (w w' : World) (b k : Nat) (g : List UInt8) : Prop where
  grown : w.grownBy w' (some b)
  cells : ∀ q, q ≠ 1 → q ≠ 4 → w'.cell? ⟨b, q, none⟩ = w.cell? ⟨b, q, none⟩
  pos : w'.cell? ⟨b, 1, none⟩ = some (.int .i64 k)
  gone : w'.cell? ⟨b, 4, none⟩ = some (.string (mkB g))
  froz : ∀ q, w'.frozen? ⟨b, q, none⟩ = w.frozen? ⟨b, q, none⟩
/-- A reader lies at a block. -/
structure RdC (w : World) (b : Nat) (s : ByteArray) (k : Nat) (g : List UInt8) : Prop where
  text : w.cell? ⟨b, 0, none⟩ = some (.string s)
  pos : w.cell? ⟨b, 1, none⟩ = some (.int .i64 k)
  gone : w.cell? ⟨b, 4, none⟩ = some (.string (mkB g))
  froz : ∀ q, w.frozen? ⟨b, q, none⟩ = false
theorem Mvd.rd {w w' : World} {b k : Nat} {g : List UInt8} (h : Mvd w w' b 0 k) (hg : w.cell? ⟨b, 4, none⟩ = some (.string (mkB g))) : Rdr w w' b k g :=
  ⟨h.grown, fun q h1 _ => h.cells q (by omega), h.pos, (h.cells 4 (by omega)).trans hg, h.froz⟩
theorem rdr_bl {w w' : World} {b k : Nat} {g : List UInt8} (hb : Below w.heap.size w w') (h : w.cell? ⟨b, 1, none⟩ = some (.int .i64 k)) (hg : w.cell? ⟨b, 4, none⟩ = some (.string (mkB g))) : Rdr w w' b k g := (mvd_bl (o := 0) hb h).rd hg
theorem Rdr.trans {w w1 w2 : World} {b k k2 : Nat} {g g2 : List UInt8} (h : Rdr w w1 b k g) (i : Rdr w1 w2 b k2 g2) : Rdr w w2 b k2 g2 :=
  ⟨⟨i.grown.os.trans h.grown.os, i.grown.tape.trans h.grown.tape, i.grown.output.trans h.grown.output, Nat.le_trans h.grown.size i.grown.size, fun x hx hn => (i.grown.block x (Nat.lt_of_lt_of_le hx h.grown.size) hn).trans (h.grown.block x hx hn)⟩,
    fun q h1 h2 => (i.cells q h1 h2).trans (h.cells q h1 h2), i.pos, i.gone, fun q => (i.froz q).trans (h.froz q)⟩
theorem Rdr.bl {w w1 w2 : World} {b k : Nat} {g : List UInt8} (h : Rdr w w1 b k g) (hb : Below w1.heap.size w1 w2) : Rdr w w2 b k g := h.trans (rdr_bl hb h.pos h.gone)
theorem Rdr.blB {w w1 w2 : World} {b k : Nat} {g : List UInt8} (h : Rdr w w1 b k g) (hb : Below w.heap.size w1 w2) (hl : b < w.heap.size) : Rdr w w2 b k g :=
  ⟨⟨hb.os.trans h.grown.os, hb.tape.trans h.grown.tape, hb.output.trans h.grown.output, Nat.le_trans h.grown.size hb.size, fun i hi hn => (hb.block i hi).trans (h.grown.block i hi hn)⟩,
    fun q h1 h2 => (hb.cell (p := ⟨b, q, none⟩) hl).trans (h.cells q h1 h2), (hb.cell (p := ⟨b, 1, none⟩) hl).trans h.pos, (hb.cell (p := ⟨b, 4, none⟩) hl).trans h.gone, fun q => (hb.frozen (p := ⟨b, q, none⟩) hl).trans (h.froz q)⟩
theorem Rdr.setG {w w1 : World} {b k : Nat} {g : List UInt8} (h : Rdr w w1 b k g) (g2 : List UInt8) : Rdr w (w1.setCell ⟨b, 4, none⟩ (.string (mkB g2))) b k g2 :=
  ⟨grown_set h.grown _ _, fun q h1 h2 => (World.cell?_setCell_other _ _ _ _ (fun e => h2 (by injection e with _ e; exact e.symm))).trans (h.cells q h1 h2), (World.cell?_setCell_other _ _ _ _ (fun e => by injection e with _ e; omega)).trans h.pos, World.cell?_setCell_same _ _ _ h.gone, fun q => by rw [World.frozen?_setCell]; exact h.froz q⟩
theorem Rdr.at {w w' : World} {b k k0 : Nat} {s : ByteArray} {g g0 : List UInt8} (h : Rdr w w' b k g) (h0 : RdC w b s k0 g0) : RdC w' b s k g := ⟨(h.cells 0 (by omega) (by omega)).trans h0.text, h.pos, h.gone, fun q => (h.froz q).trans (h0.froz q)⟩
theorem RdC.sp {w : World} {b k : Nat} {s : ByteArray} {g : List UInt8} (h : RdC w b s k g) : SpAtC w b 0 s k := ⟨h.text, h.pos⟩
theorem RdC.lt {w : World} {b k : Nat} {s : ByteArray} {g : List UInt8} (h : RdC w b s k g) : b < w.heap.size := World.block_lt_of_cell? _ _ h.text
theorem RdC.bl {w w' : World} {b k : Nat} {s : ByteArray} {g : List UInt8} (h : RdC w b s k g) (hb : Below w.heap.size w w') : RdC w' b s k g := (rdr_bl hb h.pos h.gone).at h
/-- What a reader's part answers. -/
def RdPost (w : World) (b size : Nat) (z : Option (Fm × List UInt8)) (g : List UInt8) (e : Ending) (w' : World) : Prop :=
  match z with
  | none => ∃ (d : Fm) (k : Nat), e = .returned (.tuple #[agF d, .bool false]) ∧ k ≤ size ∧ Rdr w w' b k g
  | some (f, r) => e = .returned (.tuple #[agF f, .bool true]) ∧ Rdr w w' b (size - r.length) g
def wyR (l : List UInt8) (i : Int) : Bool := (nmL i ++ [125]).isPrefixOf l
theorem turned_eq (l : List UInt8) : turnedF l = if wyR l 1 = true then some (1, l.drop 7) else if wyR l 2 = true then some (2, l.drop 9) else if wyR l 3 = true then some (3, l.drop 11) else if wyR l 4 = true then some (4, l.drop 10) else if wyR l 5 = true then some (5, l.drop 11) else none := by
  unfold turnedF wyR
  simp only [List.isPrefixOf_iff_prefix]
theorem nm_sz : (mkB (nmL 1)).size = 6 ∧ (mkB (nmL 2)).size = 8 ∧ (mkB (nmL 3)).size = 10 ∧ (mkB (nmL 4)).size = 9 ∧ (mkB (nmL 5)).size = 10 := by decide
theorem app_sz (n : ByteArray) : (n ++ (⟨#[125]⟩ : ByteArray)).size = n.size + 1 := by rw [ByteArray.size_append]; rfl
theorem app_ls (l : List UInt8) : (mkB l ++ (⟨#[125]⟩ : ByteArray)).data.toList = l ++ [125] := by rw [ByteArray.toList_data_append]; rfl
/-- A part of a format that a call makes in a block of its own: the zero value. -/
def FmR (w : World) (n : Nat) : Prop := w.heap[n]? = some (.cells #[.int .i64 0, .int .i64 0, .int .i64 0, .string ⟨#[]⟩, .string ⟨#[]⟩] 41 (0, 0))
theorem fmr_new (w : World) : FmR (w.alloc (.cells #[.int .i64 0, .int .i64 0, .int .i64 0, .string ⟨#[]⟩, .string ⟨#[]⟩] 41)) w.heap.size := heap_alloc_new w _
theorem FmR.grown {w w' : World} {n b : Nat} (h : FmR w n) (hg : w.grownBy w' (some b)) (hb : n ≠ b) : FmR w' n := (hg.block n (Array.getElem?_eq_some_iff.1 h).1 (fun e => hb (by injection e))).trans h
theorem bl_grown0 {w w' : World} (h : Below w.heap.size w w') (b : Nat) : w.grownBy w' (some b) := ⟨h.os, h.tape, h.output, h.size, fun k hk _ => h.block k hk⟩
theorem FmR.five {w : World} {n : Nat} (h : FmR w n) : (w.cell? ⟨n, 0, none⟩ = some (.int .i64 0) ∧ w.cell? ⟨n, 1, none⟩ = some (.int .i64 0) ∧ w.cell? ⟨n, 2, none⟩ = some (.int .i64 0) ∧ w.cell? ⟨n, 3, none⟩ = some (.string ⟨#[]⟩) ∧ w.cell? ⟨n, 4, none⟩ = some (.string ⟨#[]⟩)) ∧
    w.frozen? ⟨n, 0, none⟩ = false ∧ w.frozen? ⟨n, 1, none⟩ = false ∧ w.frozen? ⟨n, 2, none⟩ = false ∧ w.frozen? ⟨n, 3, none⟩ = false ∧ w.frozen? ⟨n, 4, none⟩ = false := by
  unfold FmR at h
  refine ⟨⟨?_, ?_, ?_, ?_, ?_⟩, ?_, ?_, ?_, ?_, ?_⟩ <;> simp [World.cell?, World.frozen?, h]
set_option maxHeartbeats 8000000 in
theorem turned_any {w : World} {b k : Nat} {s : ByteArray} {g : List UInt8} (h : RdC w b s k g) (hk : k ≤ s.size) (hs : s.size ≤ 1000000) (z : Option (Fm × List UInt8)) (hz : (turnedF (s.data.toList.drop k)).map (fun p => ((⟨2, 0, p.1, nilB, nilB⟩ : Fm), p.2)) = z) :
    Calls Tryd.prog 56 #[.pointer (some ⟨b, 0, none⟩)] w (RdPost w b s.size z g) := by
  have H := hide h
  have hbl := h.lt
  rw [turned_eq] at hz
  obtain ⟨n1, n2, n3, n4, n5⟩ := nm_sz
  have HN1 := hide (fun W => name_any 1 W)
  have HN2 := hide (fun W => name_any 2 W)
  have HN3 := hide (fun W => name_any 3 W)
  have HN4 := hide (fun W => name_any 4 W)
  have HN5 := hide (fun W => name_any 5 W)
  have MK : ∀ (i : Int) (n : Nat) (N : ByteArray) (r : Bool), mkB (nmL i) = N → N.size = n → n ≤ 20 → wyR (s.data.toList.drop k) i = r → ∀ W, Mvd w W b 0 k → Calls Tryd.prog 68 #[.pointer (some ⟨b, 0, none⟩), .string (N ++ ⟨#[125]⟩)] W (AllPost W b 0 k (n + 1) r) := fun i n N r h1 h2 h3 h4 W hb => by
    have hp : (N ++ (⟨#[125]⟩ : ByteArray)).size = n + 1 := by rw [app_sz, h2]
    rw [← hp]
    refine spot_all ((hb.rd H.out.gone).at H.out).sp (((hb.rd H.out.gone).at H.out).froz _) _ hk hs (by omega) r ?_
    rw [← h1, app_ls]; exact h4
  obtain ⟨r1, hr1⟩ : ∃ r, wyR (s.data.toList.drop k) 1 = r := ⟨_, rfl⟩
  obtain ⟨r2, hr2⟩ : ∃ r, wyR (s.data.toList.drop k) 2 = r := ⟨_, rfl⟩
  obtain ⟨r3, hr3⟩ : ∃ r, wyR (s.data.toList.drop k) 3 = r := ⟨_, rfl⟩
  obtain ⟨r4, hr4⟩ : ∃ r, wyR (s.data.toList.drop k) 4 = r := ⟨_, rfl⟩
  obtain ⟨r5, hr5⟩ : ∃ r, wyR (s.data.toList.drop k) 5 = r := ⟨_, rfl⟩
  rw [hr1, hr2, hr3, hr4, hr5] at hz
  have M1 := hide (MK 1 6 _ r1 rfl n1 (by decide) hr1)
  have M2 := hide (MK 2 8 _ r2 rfl n2 (by decide) hr2)
  have M3 := hide (MK 3 10 _ r3 rfl n3 (by decide) hr3)
  have M4 := hide (MK 4 9 _ r4 rfl n4 (by decide) hr4)
  have M5 := hide (MK 5 10 _ r5 rfl n5 (by decide) hr5)
  have HZ := hide hz
  have HPL := hide (fun (i : Int) (r : Bool) (hr : wyR (s.data.toList.drop k) i = r) (hr2 : r = true) => by
    have := (List.isPrefixOf_iff_prefix.1 (hr.trans hr2)).length_le
    rw [List.length_drop, Array.length_toList] at this
    exact this)
  obtain ⟨N1, hN1⟩ : ∃ N, mkB (nmL 1) = N := ⟨_, rfl⟩
  obtain ⟨N2, hN2⟩ : ∃ N, mkB (nmL 2) = N := ⟨_, rfl⟩
  obtain ⟨N3, hN3⟩ : ∃ N, mkB (nmL 3) = N := ⟨_, rfl⟩
  obtain ⟨N4, hN4⟩ : ∃ N, mkB (nmL 4) = N := ⟨_, rfl⟩
  obtain ⟨N5, hN5⟩ : ∃ N, mkB (nmL 5) = N := ⟨_, rfl⟩
  rw [show (⟨(nmL 1).toArray⟩ : ByteArray) = N1 from hN1] at HN1
  rw [show (⟨(nmL 2).toArray⟩ : ByteArray) = N2 from hN2] at HN2
  rw [show (⟨(nmL 3).toArray⟩ : ByteArray) = N3 from hN3] at HN3
  rw [show (⟨(nmL 4).toArray⟩ : ByteArray) = N4 from hN4] at HN4
  rw [show (⟨(nmL 5).toArray⟩ : ByteArray) = N5 from hN5] at HN5
  rw [hN1] at M1 n1
  rw [hN2] at M2 n2
  rw [hN3] at M3 n3
  rw [hN4] at M4 n4
  rw [hN5] at M5 n5
  clear hN1 hN2 hN3 hN4 hN5 MK h hz
  go_enter Tryd.func56, Tryd.ntmps56
  go_wp2
  have hba := bl_alloc (bl_refl w) (.cells #[.int .i64 0, .int .i64 0, .int .i64 0, .string ⟨#[]⟩, .string ⟨#[]⟩] 41)
  have HM0 := hide (mvd_bl (o := 0) hba H.out.pos)
  have HR0 := hide (fmr_new w)
  clear hba
  obtain ⟨w0, hw0⟩ : ∃ w0, w.alloc (.cells #[.int .i64 0, .int .i64 0, .int .i64 0, .string ⟨#[]⟩, .string ⟨#[]⟩] 41) = w0 := ⟨_, rfl⟩
  rw [hw0] at HM0 HR0 ⊢
  clear hw0
  refine wp_loop_rounds 7 ?_
  rw [rounds_succ]
  go_wp2
  go_region_with (first | (go_at_call 38; refine (HN1.out _).mono ?_; rintro e w1 ⟨rfl, rfl⟩) | (go_at_call 68; refine (M1.out _ (HM0.out.bl (bl_drew (bl_refl w0)))).mono ?_; rintro e w1 ⟨rfl, hm1⟩))
  have HMM1 := hide ((HM0.out.bl (bl_drew (bl_refl w0))).trans hm1)
  have HR1 := hide ((HR0.out.grown (bl_grown0 (bl_drew (bl_refl w0)) b) (Nat.ne_of_gt hbl)).grown hm1.grown (Nat.ne_of_gt hbl))
  clear hm1 HM0 HR0 HN1 M1
  rcases hq1 : r1 with _ | _
  rotate_left
  · rw [hq1] at HZ HMM1
    obtain rfl : z = some (⟨2, 0, 1, nilB, nilB⟩, (s.data.toList.drop k).drop 7) := by rw [← HZ.out]; simp
    have hlen : s.size - ((s.data.toList.drop k).drop 7).length = k + 7 := by
      have := HPL.out 1 _ hr1 hq1
      simp only [List.length_drop]
      rw [Array.length_toList] at this ⊢
      have h2 : ({ toList := nmL 1 ++ [125] } : Array UInt8).size = 7 := by decide
      have h3 : s.data.size = s.size := rfl
      omega
    have HLEN := hide hlen
    have HX := hide (show Mvd w w1 b 0 (k + 7) from HMM1.out)
    obtain ⟨⟨e0, e1, e2, e3, e4⟩, f0, f1, f2, f3, f4⟩ := HR1.out.five
    clear hlen HMM1 HZ HPL hr1 hr2 hr3 hr4 hr5
    go_wp2
    (try simp only [Exit.inBlock, Exit.then])
    refine bodyPost_ret (v := .tuple #[agF _, .bool true]) ?_ rfl ⟨rfl, ?_⟩
    · rw [results_cell_tmp rfl]
      unfold agF nilB
      go_simp
    · rw [HLEN.out]
      exact (HX.out.rd H.out.gone).blB (by repeat (first | refine Below.setCell ?_ (by simp) _ | with_reducible exact Below.refl _ _)) hbl
  rw [hq1] at HZ HMM1
  have HM1 := hide (show Mvd w w1 b 0 k from HMM1.out)
  clear HMM1 hr1 hq1
  go_wp2
  rw [rounds_succ]
  go_wp2
  go_region_with (first | (go_at_call 38; refine (HN2.out _).mono ?_; rintro e w1 ⟨rfl, rfl⟩) | (go_at_call 68; refine (M2.out _ (HM1.out.bl (bl_drew (bl_refl w1)))).mono ?_; rintro e w2 ⟨rfl, hm2⟩))
  have HMM2 := hide ((HM1.out.bl (bl_drew (bl_refl w1))).trans hm2)
  have HR2 := hide ((HR1.out.grown (bl_grown0 (bl_drew (bl_refl w1)) b) (Nat.ne_of_gt hbl)).grown hm2.grown (Nat.ne_of_gt hbl))
  clear hm2 HM1 HR1 HN2 M2
  rcases hq2 : r2 with _ | _
  rotate_left
  · rw [hq2] at HZ HMM2
    obtain rfl : z = some (⟨2, 0, 2, nilB, nilB⟩, (s.data.toList.drop k).drop 9) := by rw [← HZ.out]; simp
    have hlen : s.size - ((s.data.toList.drop k).drop 9).length = k + 9 := by
      have := HPL.out 2 _ hr2 hq2
      simp only [List.length_drop]
      rw [Array.length_toList] at this ⊢
      have h2 : ({ toList := nmL 2 ++ [125] } : Array UInt8).size = 9 := by decide
      have h3 : s.data.size = s.size := rfl
      omega
    have HLEN := hide hlen
    have HX := hide (show Mvd w w2 b 0 (k + 9) from HMM2.out)
    obtain ⟨⟨e0, e1, e2, e3, e4⟩, f0, f1, f2, f3, f4⟩ := HR2.out.five
    clear hlen HMM2 HZ HPL hr2 hr3 hr4 hr5
    go_wp2
    (try simp only [Exit.inBlock, Exit.then])
    refine bodyPost_ret (v := .tuple #[agF _, .bool true]) ?_ rfl ⟨rfl, ?_⟩
    · rw [results_cell_tmp rfl]
      unfold agF nilB
      go_simp
    · rw [HLEN.out]
      exact (HX.out.rd H.out.gone).blB (by repeat (first | refine Below.setCell ?_ (by simp) _ | with_reducible exact Below.refl _ _)) hbl
  rw [hq2] at HZ HMM2
  have HM2 := hide (show Mvd w w2 b 0 k from HMM2.out)
  clear HMM2 hr2 hq2
  go_wp2
  rw [rounds_succ]
  go_wp2
  go_region_with (first | (go_at_call 38; refine (HN3.out _).mono ?_; rintro e w1 ⟨rfl, rfl⟩) | (go_at_call 68; refine (M3.out _ (HM2.out.bl (bl_drew (bl_refl w2)))).mono ?_; rintro e w3 ⟨rfl, hm3⟩))
  have HMM3 := hide ((HM2.out.bl (bl_drew (bl_refl w2))).trans hm3)
  have HR3 := hide ((HR2.out.grown (bl_grown0 (bl_drew (bl_refl w2)) b) (Nat.ne_of_gt hbl)).grown hm3.grown (Nat.ne_of_gt hbl))
  clear hm3 HM2 HR2 HN3 M3
  rcases hq3 : r3 with _ | _
  rotate_left
  · rw [hq3] at HZ HMM3
    obtain rfl : z = some (⟨2, 0, 3, nilB, nilB⟩, (s.data.toList.drop k).drop 11) := by rw [← HZ.out]; simp
    have hlen : s.size - ((s.data.toList.drop k).drop 11).length = k + 11 := by
      have := HPL.out 3 _ hr3 hq3
      simp only [List.length_drop]
      rw [Array.length_toList] at this ⊢
      have h2 : ({ toList := nmL 3 ++ [125] } : Array UInt8).size = 11 := by decide
      have h3 : s.data.size = s.size := rfl
      omega
    have HLEN := hide hlen
    have HX := hide (show Mvd w w3 b 0 (k + 11) from HMM3.out)
    obtain ⟨⟨e0, e1, e2, e3, e4⟩, f0, f1, f2, f3, f4⟩ := HR3.out.five
    clear hlen HMM3 HZ HPL hr3 hr4 hr5
    go_wp2
    (try simp only [Exit.inBlock, Exit.then])
    refine bodyPost_ret (v := .tuple #[agF _, .bool true]) ?_ rfl ⟨rfl, ?_⟩
    · rw [results_cell_tmp rfl]
      unfold agF nilB
      go_simp
    · rw [HLEN.out]
      exact (HX.out.rd H.out.gone).blB (by repeat (first | refine Below.setCell ?_ (by simp) _ | with_reducible exact Below.refl _ _)) hbl
  rw [hq3] at HZ HMM3
  have HM3 := hide (show Mvd w w3 b 0 k from HMM3.out)
  clear HMM3 hr3 hq3
  go_wp2
  rw [rounds_succ]
  go_wp2
  go_region_with (first | (go_at_call 38; refine (HN4.out _).mono ?_; rintro e w1 ⟨rfl, rfl⟩) | (go_at_call 68; refine (M4.out _ (HM3.out.bl (bl_drew (bl_refl w3)))).mono ?_; rintro e w4 ⟨rfl, hm4⟩))
  have HMM4 := hide ((HM3.out.bl (bl_drew (bl_refl w3))).trans hm4)
  have HR4 := hide ((HR3.out.grown (bl_grown0 (bl_drew (bl_refl w3)) b) (Nat.ne_of_gt hbl)).grown hm4.grown (Nat.ne_of_gt hbl))
  clear hm4 HM3 HR3 HN4 M4
  rcases hq4 : r4 with _ | _
  rotate_left
  · rw [hq4] at HZ HMM4
    obtain rfl : z = some (⟨2, 0, 4, nilB, nilB⟩, (s.data.toList.drop k).drop 10) := by rw [← HZ.out]; simp
    have hlen : s.size - ((s.data.toList.drop k).drop 10).length = k + 10 := by
      have := HPL.out 4 _ hr4 hq4
      simp only [List.length_drop]
      rw [Array.length_toList] at this ⊢
      have h2 : ({ toList := nmL 4 ++ [125] } : Array UInt8).size = 10 := by decide
      have h3 : s.data.size = s.size := rfl
      omega
    have HLEN := hide hlen
    have HX := hide (show Mvd w w4 b 0 (k + 10) from HMM4.out)
    obtain ⟨⟨e0, e1, e2, e3, e4⟩, f0, f1, f2, f3, f4⟩ := HR4.out.five
    clear hlen HMM4 HZ HPL hr4 hr5
    go_wp2
    (try simp only [Exit.inBlock, Exit.then])
    refine bodyPost_ret (v := .tuple #[agF _, .bool true]) ?_ rfl ⟨rfl, ?_⟩
    · rw [results_cell_tmp rfl]
      unfold agF nilB
      go_simp
    · rw [HLEN.out]
      exact (HX.out.rd H.out.gone).blB (by repeat (first | refine Below.setCell ?_ (by simp) _ | with_reducible exact Below.refl _ _)) hbl
  rw [hq4] at HZ HMM4
  have HM4 := hide (show Mvd w w4 b 0 k from HMM4.out)
  clear HMM4 hr4 hq4
  go_wp2
  rw [rounds_succ]
  go_wp2
  go_region_with (first | (go_at_call 38; refine (HN5.out _).mono ?_; rintro e w1 ⟨rfl, rfl⟩) | (go_at_call 68; refine (M5.out _ (HM4.out.bl (bl_drew (bl_refl w4)))).mono ?_; rintro e w5 ⟨rfl, hm5⟩))
  have HMM5 := hide ((HM4.out.bl (bl_drew (bl_refl w4))).trans hm5)
  have HR5 := hide ((HR4.out.grown (bl_grown0 (bl_drew (bl_refl w4)) b) (Nat.ne_of_gt hbl)).grown hm5.grown (Nat.ne_of_gt hbl))
  clear hm5 HM4 HR4 HN5 M5
  rcases hq5 : r5 with _ | _
  rotate_left
  · rw [hq5] at HZ HMM5
    obtain rfl : z = some (⟨2, 0, 5, nilB, nilB⟩, (s.data.toList.drop k).drop 11) := by rw [← HZ.out]; simp
    have hlen : s.size - ((s.data.toList.drop k).drop 11).length = k + 11 := by
      have := HPL.out 5 _ hr5 hq5
      simp only [List.length_drop]
      rw [Array.length_toList] at this ⊢
      have h2 : ({ toList := nmL 5 ++ [125] } : Array UInt8).size = 11 := by decide
      have h3 : s.data.size = s.size := rfl
      omega
    have HLEN := hide hlen
    have HX := hide (show Mvd w w5 b 0 (k + 11) from HMM5.out)
    obtain ⟨⟨e0, e1, e2, e3, e4⟩, f0, f1, f2, f3, f4⟩ := HR5.out.five
    clear hlen HMM5 HZ HPL hr5
    go_wp2
    (try simp only [Exit.inBlock, Exit.then])
    refine bodyPost_ret (v := .tuple #[agF _, .bool true]) ?_ rfl ⟨rfl, ?_⟩
    · rw [results_cell_tmp rfl]
      unfold agF nilB
      go_simp
    · rw [HLEN.out]
      exact (HX.out.rd H.out.gone).blB (by repeat (first | refine Below.setCell ?_ (by simp) _ | with_reducible exact Below.refl _ _)) hbl
  rw [hq5] at HZ HMM5
  have HM5 := hide (show Mvd w w5 b 0 k from HMM5.out)
  clear HMM5 hr5 hq5
  go_wp2
  rw [rounds_succ]
  obtain rfl : z = none := by rw [← HZ.out]; simp
  obtain ⟨⟨e0, e1, e2, e3, e4⟩, f0, f1, f2, f3, f4⟩ := HR5.out.five
  go_wp2
  (try simp only [Exit.inBlock, Exit.then])
  refine bodyPost_ret (v := .tuple #[agF ⟨0, 0, 0, nilB, nilB⟩, .bool false]) ?_ rfl ⟨_, k, rfl, hk, ?_⟩
  · rw [results_cell_tmp rfl]
    unfold agF nilB
    go_simp
  · exact (HM5.out.rd H.out.gone).blB (by repeat (first | refine Below.setCell ?_ (by simp) _ | with_reducible exact Below.refl _ _)) hbl
end Go.Proofs.YtbphckblbbbakaaDoor
