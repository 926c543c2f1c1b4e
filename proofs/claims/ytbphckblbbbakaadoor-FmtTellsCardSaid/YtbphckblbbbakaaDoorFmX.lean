/- Contract: a format is read (fmts.Read). Condition: a text that is not too long, a place in it. -/
import Derived.Test.YtbphckblbbbakaaDoorFmW
namespace Go.Proofs.YtbphckblbbbakaaDoor
open Go.ChangeShapes Go.WideShapes Go.ChangeAt Go.RowKit
attribute [local go_sem ↓] Go.wp_at_zero Go.wp_at_succ
set_option maxRecDepth 100000
set_option linter.unusedVariables false
theorem Rdr.setK {w w1 : World} {b k : Nat} {g : List UInt8} (h : Rdr w w1 b k g) (k' : Nat) : Rdr w (w1.setCell ⟨b, 1, none⟩ (.int .i64 k')) b k' g :=
  ⟨grown_set h.grown _ _, fun q h1 h2 => (World.cell?_setCell_other _ _ _ _ (fun e => h1 (by injection e with _ e; exact e.symm))).trans (h.cells q h1 h2), World.cell?_setCell_same _ _ _ h.pos, (World.cell?_setCell_other _ _ _ _ (fun e => by injection e with _ e; omega)).trans h.gone, fun q => by rw [World.frozen?_setCell]; exact h.froz q⟩
theorem rdr_refl {w : World} {b : Nat} {s : ByteArray} {k : Nat} {g : List UInt8} (h : RdC w b s k g) : Rdr w w b k g := rdr_bl (bl_refl w) h.pos h.gone
theorem rdf_new (w : World) (s : ByteArray) (k : Nat) : RdF (w.alloc (.cells #[.string s, .int .i64 k, .slice none 0 0, .slice none 0 0, .string ⟨#[]⟩] 60)) w.heap.size s k [] [] [] (.slice none 0 0) (.slice none 0 0) := by
  have hc : ∀ j u, ([.string s, .int .i64 k, .slice none 0 0, .slice none 0 0, .string ⟨#[]⟩] : List Value)[j]? = some u → (w.alloc (.cells #[.string s, .int .i64 k, .slice none 0 0, .slice none 0 0, .string ⟨#[]⟩] 60)).cell? ⟨w.heap.size, j, none⟩ = some u := fun j u hu => by
    rw [World.cell?_alloc_mark w _ _ (0, 0) j, ← hu]; simp
  refine ⟨⟨hc 0 _ rfl, hc 1 _ rfl, hc 4 _ rfl, fun q => ?_⟩, hc 2 _ rfl, hc 3 _ rfl, World.ownsRow_nil _ _ _ _, World.ownsRow_nil _ _ _ _, fun n h => by cases h⟩
  have hh := heap_alloc_new w (.cells #[.string s, .int .i64 k, .slice none 0 0, .slice none 0 0, .string ⟨#[]⟩] 60)
  simp only [World.frozen?, hh]
  simp
theorem own_fmat {w : World} {base : Nat} {v : Value} {l : List Fm} (h : w.ownsRow base 41 5 v l.length (fmC l)) : FmAt w v l := by
  rcases own_form h with ⟨rfl, h1, h2⟩ | ⟨g, c, rfl, h1, h2, h3, h4, h5⟩
  · exact .inl ⟨rfl, List.eq_nil_of_length_eq_zero h1⟩
  · refine .inr ⟨⟨g, 0, none⟩, c, rfl, h3, h4, fun i hi => ?_⟩
    have key : ∀ (l : List Fm) (i q : Nat) (hi : i < l.length), q < 5 → (fmC l)[i * 5 + q]? = (fmC1 l[i])[q]? := by
      intro l
      induction l with
      | nil => intro i q hi; simp at hi
      | cons d l ih =>
        intro i q hi hq
        rw [show fmC (d :: l) = fmC1 d ++ fmC l from rfl]
        cases i with
        | zero => rw [List.getElem?_append_left (by simp [fmC1]; omega)]; simp
        | succ i =>
          rw [List.getElem?_append_right (by simp [fmC1]; omega)]
          have := ih i q (by simpa using hi) hq
          simp only [fmC1, List.length_cons, List.length_nil, List.getElem_cons_succ] at this ⊢
          rw [← this]; congr 1; omega
    have hq : ∀ q u, q < 5 → (fmC1 l[i])[q]? = some u → w.cell? ((⟨g, 0, none⟩ : Addr).add (i * 5 + q)) = some u := fun q u hq hu => by
      rw [addr_add, Nat.zero_add]; exact h5 _ _ ((key l i q hi hq).trans hu)
    exact ⟨hq 0 _ (by decide) rfl, hq 1 _ (by decide) rfl, hq 2 _ (by decide) rfl, hq 3 _ (by decide) rfl, hq 4 _ (by decide) rfl⟩
def RePost (w : World) (size : Nat) (z : Option (List Fm × List UInt8)) (e : Ending) (w' : World) : Prop :=
  match z with
  | none => e = .returned (.tuple #[.slice none 0 0, .int .i64 0, .bool false]) ∧ Below w.heap.size w w'
  | some (fs, r) => ∃ v, e = .returned (.tuple #[v, .int .i64 ((size - r.length : Nat) : Int), .bool true]) ∧ FmAt w' v fs ∧ Below w.heap.size w w'
theorem read_nil (m : Nat) (g t : List UInt8) (ps : List Fm) : readF m [] g t ps = none := by cases m <;> rfl
theorem part_g (l g : List UInt8) : (partF l g).2.length ≤ g.length + 1 := by
  have hu : ∀ e l g x g', untG e l g = (x, g') → g'.length ≤ g.length + 1 ∧ (∀ y, x = some y → g' = g) := fun e l g x g' h => by
    have h1 := untG_g (e := e) (l := l) (g := g)
    rw [h] at h1
    refine ⟨h1, fun y hy => ?_⟩
    subst hy
    obtain ⟨t, r⟩ := y
    exact (unt_len h).2.2.1
  have he : ∀ l g, (elseF l g).2.length ≤ g.length + 1 := fun l g => by
    unfold elseF
    rcases h : untG 125 l g with ⟨_ | ⟨t, r⟩, g'⟩
    · exact (hu _ _ _ _ _ h).1
    · exact (hu _ _ _ _ _ h).1
  have hc : ∀ l g, (colonF l g).2.length ≤ g.length + 1 := fun l g => by
    unfold colonF
    split
    · simp
    · rename_i l
      rcases h : untG 125 l g with ⟨_ | ⟨t, r⟩, g'⟩
      · exact (hu _ _ _ _ _ h).1
      · exact (hu _ _ _ _ _ h).1
    · rename_i l
      rcases h : untG 58 l g with ⟨_ | ⟨t, r⟩, g'⟩
      · exact (hu _ _ _ _ _ h).1
      · have e1 := (hu _ _ _ _ _ h).2 _ rfl
        subst e1
        dsimp only
        rcases h2 : untG 125 r g' with ⟨_ | ⟨t2, r2⟩, g2⟩
        · exact (hu _ _ _ _ _ h2).1
        · exact (hu _ _ _ _ _ h2).1
    · exact he _ _
    · exact he _ _
  have key : ∀ l2 g (n : Nat), (match colonF l2 g with
    | (some (f, r), g) => (some ({ f with n := n }, r), g)
    | (none, g) => (none, g) : Option (Fm × List UInt8) × List UInt8).2.length ≤ g.length + 1 := fun l2 g n => by
    have := hc l2 g
    rcases h : colonF l2 g with ⟨_ | ⟨t, r⟩, g'⟩
    · rw [h] at this; exact this
    · rw [h] at this; exact this
  unfold partF
  split
  · unfold brF
    split
    · simp
    · exact key _ _ _
    · simp
  · unfold dolF; split <;> simp
  · simp
set_option maxHeartbeats 8000000 in
theorem read_any {w : World} {s : ByteArray} {k : Nat} (hk : k ≤ s.size) (hs : s.size ≤ 400000) (z : Option (List Fm × List UInt8)) (hz : readF (s.size + 1) (s.data.toList.drop k) [] [] [] = z) :
    Calls Tryd.prog 15 #[.string s, .int .i64 k] w (RePost w s.size z) := by
  have HZ := hide hz
  obtain ⟨i0, hi0, hz0', hz1, hz2⟩ := info_parts info_fm
  obtain ⟨j0, hj0, jz0', jz1, jz2⟩ := info_parts info_by
  have g1 : decide ((k : Int) < 0) = false := decide_eq_false (by omega)
  have g2 : decide ((s.size : Int) < (k : Int)) = false := decide_eq_false (by omega)
  have g2' : decide (s.size < k) = false := decide_eq_false (by omega)
  clear hz
  go_enter Tryd.func15, Tryd.ntmps15
  go_wp2
  have hn0 := rdf_new w s k
  have hb0 := bl_alloc (bl_refl w) (.cells #[.string s, .int .i64 k, .slice none 0 0, .slice none 0 0, .string ⟨#[]⟩] 60)
  obtain ⟨b, hb⟩ : ∃ b, w.heap.size = b := ⟨_, rfl⟩
  rw [hb] at hn0 ⊢
  have HN0 := hide hn0
  have HB0 := hide hb0
  have HBB := hide hb
  clear hn0 hb0 hb
  go_loopw [] (fun wr => ∃ (m p : Nat) (t g : List UInt8) (ps : List Fm) (pv tv : Value), p ≤ s.size ∧ s.size - p < m ∧ t.length ≤ p ∧ ps.length ≤ 2 * p ∧ g.length ≤ p ∧ Hid (readF m (s.data.toList.drop p) g t ps = z) ∧ Hid (RdF wr b s p t ps g pv tv) ∧ Hid (Below w.heap.size w wr)) (fun wr => s.size + 1 - (intOf ((wr.cell? ⟨b, 1, none⟩).getD (.bool false))).toNat)
  case atStart => exact ⟨s.size + 1, k, [], [], [], .slice none 0 0, .slice none 0 0, hk, by omega, Nat.zero_le _, Nat.zero_le _, Nat.zero_le _, HZ, HN0, HB0⟩
  case round =>
    clear g1 g2 g2'
    obtain ⟨m, p, t, g, ps, pv, tv, hp, hm, ht, hps, hg, HJ, HF, HB⟩ := hrel
    obtain ⟨m, rfl⟩ : ∃ m', m = m' + 1 := ⟨m - 1, by omega⟩
    have HBW := hide (show w.heap.size ≤ b from Nat.le_of_eq HBB.out)
    by_cases hlt : p < s.size
    · have HD := hide (spot_done' (HF.out.rd.sp) false (decide_eq_false (by omega)))
      have hj := HJ.out
      rw [drop_at s p hlt] at hj
      rcases hr : hasB s p 47 with _ | _
      · have h47 : s[p] ≠ 47 := fun e => has_not (c := 47) rfl hr (s.data.toList.drop (p + 1)) (by rw [drop_at s p hlt, e])
        unfold readF at hj
        rw [if_neg h47, ← drop_at s p hlt] at hj
        obtain ⟨y, hy⟩ : ∃ y, partF (s.data.toList.drop p) g = y := ⟨_, rfl⟩
        rw [hy] at hj
        have HR := hide hr
        have hpg := part_g (s.data.toList.drop p) g
        rw [hy] at hpg
        have hdl : (s.data.toList.drop p).length = s.size - p := by rw [List.length_drop, Array.length_toList]; rfl
        have HY := hide hy
        rcases y with ⟨_ | ⟨f, r⟩, g'⟩
        · dsimp only at hj hpg
          obtain ⟨p1, hp1⟩ : ∃ p1, escK s inT p = p1 := ⟨_, rfl⟩
          have hle := escK_le s inT p
          have hed := esc_drop s inT p
          rw [hp1] at hle hed
          have hlt1 := hle.2.2 hlt
          rw [← hed, drop_at s p1 hlt1] at hj
          dsimp only at hj
          obtain ⟨c, hc⟩ : ∃ c, s[p1] = c := ⟨_, rfl⟩
          rw [hc] at hj
          have HC := hide (show (s[p1].toNat : Int) = c.toNat by rw [hc])
          have HJ2 := hide hj
          have HE := hide (fun W h1 h2 => spot_escape (w := W) (b := b) (o := 0) (s := s) (k := p) h1 h2 ⟨#[36, 125, 92, 47]⟩ hlt (by omega) p1 hp1)
          have HNX := hide (show p1 + 1 ≤ s.size ∧ s.size - (p1 + 1) < m ∧ (t ++ [c]).length ≤ p1 + 1 ∧ ps.length ≤ 2 * (p1 + 1) ∧ g'.length ≤ p1 + 1 ∧ p < p1 + 1 by simp; omega)
          have HPOS := hide HF.out.rd.pos
          clear hr hj hy h47 hp1 hle hed hc hpg hdl HJ
          go_wp2_with fail
          refine HD.out.mono ?_
          rintro e w2 ⟨rfl, hb2⟩
          have HF2 := hide (HF.out.bl hb2)
          have HB2 := hide (bl_trans HB.out hb2)
          clear hb2 HD HF HB
          go_wp2_with fail
          refine (spot_has HF2.out.rd.sp 47 false HR.out (by omega)).mono ?_
          rintro e w3 ⟨rfl, hb3⟩
          have HF3 := hide (HF2.out.bl hb3)
          have HB3 := hide (bl_trans HB2.out hb3)
          have c1 := HF3.out.rd.pos
          clear hb3 HF2 HB2
          go_wp2_with fail
          refine (part_any HF3.out.rd hp (by omega) (by omega) _ HY.out).mono ?_
          rintro e w4 ⟨d, k9, rfl, hk9, hm4⟩
          have HF4 := hide (HF3.out.rdr hm4)
          have HB4 := hide (HB3.out.trans ((Below.refl b w3).grown hm4.grown (Nat.le_of_lt HF3.out.rd.lt) (fun n hn => by injection hn with hn; omega) |>.mono HBW.out))
          have HW4 := hide (bl_alloc (bl_refl w4) (.cells #[.int .i64 d.k, .int .i64 d.n, .int .i64 d.c, .string d.th, .string d.el] 41))
          have HF5 := hide (HF4.out.bl HW4.out)
          have a1 := HF5.out.rd.pos
          have af1 := HF5.out.rd.froz 1
          clear hm4 HF3 HB3 c1
          unfold agF
          have HF6 := hide (HF5.out.rdr ((rdr_refl HF5.out.rd).setK p))
          have HB6 := hide ((bl_trans HB4.out HW4.out).setCell (p := ⟨b, 1, none⟩) HBW.out (.int .i64 (p : Int)))
          go_wp2_with fail
          refine (HE.out _ HF6.out.rd.sp (HF6.out.rd.froz 1)).mono ?_
          rintro e w7 ⟨rfl, hm7⟩
          have HF7 := hide (HF6.out.rdr (hm7.rd HF6.out.rd.gone))
          have HB7 := hide (HB6.out.trans ((Below.refl b _).grown hm7.grown (Nat.le_of_lt HF6.out.rd.lt) (fun n hn => by injection hn with hn; omega) |>.mono HBW.out))
          clear hm7 HF6 HB6 HF5 HF4 HB4 HW4 a1 af1
          obtain ⟨tA, tc, rfl⟩ := own_slice HF7.out.txt
          have b1 := HF7.out.rd.pos
          have b3 := HF7.out.ct
          have bf3 := HF7.out.rd.froz 3
          have hblt := HF7.out.rd.lt
          have i1 : (0 : Int) ≤ (p1 : Int) := by omega
          have i2 : (p1 : Int) < (s.size : Int) := by have := HNX.out.1; omega
          have hcc := HC.out
          have HD7 := hide (HF7.out.bl (bl_drew (bl_alloc (bl_refl w7) (.cells #[.int .u8 (c.toNat : Int)] 5))))
          have htl : t.length ≤ 400000 := by omega
          go_wp2
          go_region_law (refine step_append_lies _ (by rfl) (.tmp 55) (.tmp 61) 43 (by rfl) (b + 1) 5 j0 (.int .u8 0) 1 1 Tryd.underlying43 hj0 jz0' jz1 jz2 rfl (by decide) (.slice tA t.length tc) t.length (Lib.byteCells t) (by rfl) HD7.out.txt ⟨w7.heap.size, 0, none⟩ 1 1 [.int .u8 (c.toNat : Int)] (by rfl) (by rfl) (World.news_of_block (heap_drew (heap_alloc_new w7 _))) (by simp [Value.oneCell']) (by decide) (by unfold maxLen; omega) (by omega) (by simp; omega) (w7.heap.size + 1) (by simp) ?_; intro g3 cap3 w8 ho8 hg8 ha8 hlt8; obtain ⟨k3, kf3⟩ := HD7.out.farT hg8)
          all_goals
            have hz := HD7.out.setT (tv' := .slice (some ⟨g3, 0, none⟩) (t.length + 1) cap3) (t' := t ++ [c]) hg8 (by rw [List.length_append, byteCells_one]; exact ho8) (ha8.imp (fun h => h.symm) (fun h => .inr ⟨g3, rfl, by rw [h]; simp⟩))
            have hbz : Below b w7 (w8.setCell ⟨b, 3, none⟩ (.slice (some ⟨g3, 0, none⟩) (t.length + 1) cap3)) := (((bl_drew (bl_alloc (bl_refl w7) _)).mono (Nat.le_of_lt hblt)).trans (HD7.out.belowT hg8)).setCell (p := ⟨b, 3, none⟩) (Nat.le_refl b) _
            have HZ9 := hide hz
            have HBZ := hide (HB7.out.trans (hbz.mono HBW.out))
            have d1 := hz.rd.pos
            have df1 := hz.rd.froz 1
            have e5 : IntKind.i64.wrap ((p1 : Int) + 1) = (p1 : Int) + 1 := by rw [IntKind.wrap_i64]; omega
            have HFZ := hide (hz.rdr ((rdr_refl hz.rd).setK (p1 + 1)))
            have HBY := hide (HBZ.out.setCell (p := ⟨b, 1, none⟩) HBW.out (.int .i64 ((p1 + 1 : Nat) : Int)))
            clear hz hbz k3 kf3 ho8 hg8 ha8 hlt8
            go_wp2
            refine ⟨?_, ?_⟩
            · first
                | exact ⟨m, p1 + 1, t ++ [c], g', ps, pv, _, HNX.out.1, HNX.out.2.1, HNX.out.2.2.1, HNX.out.2.2.2.1, HNX.out.2.2.2.2.1, HJ2, HFZ, HBY⟩
                | ((repeat apply Exists.intro); exact ⟨⟨m, p1 + 1, t ++ [c], g', ps, pv, _, HNX.out.1, HNX.out.2.1, HNX.out.2.2.1, HNX.out.2.2.2.1, HNX.out.2.2.2.2.1, HJ2, HFZ, HBY⟩, rfl⟩)
            · rw [HPOS.out]
              have h6 := HFZ.out.rd.pos
              rw [show ((p1 + 1 : Nat) : Int) = (p1 : Int) + 1 by omega] at h6
              rw [h6]
              have := HNX.out.2.2.2.2.2
              simp [intOf]; omega
        · dsimp only at hj hpg
          obtain ⟨_, _, hrl, _, _, _, hsf⟩ := part_is hy
          obtain ⟨hdr, hple, hpge⟩ := (suf_drop hsf).resolve_right (by omega)
          obtain ⟨p1, hp1⟩ : ∃ p1, s.size - r.length = p1 := ⟨_, rfl⟩
          rw [hp1] at hdr hple hpge
          rw [← hdr] at hj
          have hlt1 : p < p1 := by omega
          have hfl : (flushF ps t).length ≤ ps.length + 1 := by unfold flushF; split <;> simp
          have HJ2 := hide hj
          have HP1 := hide hp1
          have HNX := hide (show p1 ≤ s.size ∧ s.size - p1 < m ∧ ([] : List UInt8).length ≤ p1 ∧ (flushF ps t ++ [f]).length ≤ 2 * p1 ∧ g'.length ≤ p1 ∧ p < p1 by simp; omega)
          have HPOS := hide HF.out.rd.pos
          have hfl2 : (flushF ps t).length ≤ 1000000 := by omega
          have HFL := hide hfl2
          clear hr hj hy h47 hp1 hrl hsf hdr hple hpge hfl hpg hdl HJ hfl2
          go_wp2_with fail
          refine HD.out.mono ?_
          rintro e w2 ⟨rfl, hb2⟩
          have HF2 := hide (HF.out.bl hb2)
          have HB2 := hide (bl_trans HB.out hb2)
          clear hb2 HD HF HB
          go_wp2_with fail
          refine (spot_has HF2.out.rd.sp 47 false HR.out (by omega)).mono ?_
          rintro e w3 ⟨rfl, hb3⟩
          have HF3 := hide (HF2.out.bl hb3)
          have HB3 := hide (bl_trans HB2.out hb3)
          have c1 := HF3.out.rd.pos
          clear hb3 HF2 HB2
          go_wp2_with fail
          refine (part_any HF3.out.rd hp (by omega) (by omega) _ HY.out).mono ?_
          rintro e w4 ⟨rfl, hm4⟩
          rw [HP1.out] at hm4
          have HF4 := hide (HF3.out.rdr hm4)
          have HB4 := hide (HB3.out.trans ((Below.refl b w3).grown hm4.grown (Nat.le_of_lt HF3.out.rd.lt) (fun n hn => by injection hn with hn; omega) |>.mono HBW.out))
          have HW4 := hide (bl_alloc (bl_refl w4) (.cells #[.int .i64 f.k, .int .i64 f.n, .int .i64 f.c, .string f.th, .string f.el] 41))
          have HF5 := hide (HF4.out.bl HW4.out)
          have HB5 := hide (bl_trans HB4.out HW4.out)
          have HLT4 := hide HF4.out.rd.lt
          have HOW4 := hide (fun n hn => (HF4.out.own.lt n hn).2)
          clear hm4 HF3 HB3 c1
          unfold agF
          go_wp2_with fail
          refine (flush_any HF5.out (by omega) (by omega)).mono ?_
          rintro e w6 ⟨rfl, hkept, pv6, tv6, hF6, hb6⟩
          have hh := (hkept w4.heap.size (by simp) (by have := HLT4.out; omega) (fun e => by have := HOW4.out _ e; omega)).trans (heap_alloc_new w4 (.cells #[.int .i64 f.k, .int .i64 f.n, .int .i64 f.c, .string f.th, .string f.el] 41))
          have hcell : ∀ (j : Nat) (u : Value), ([.int .i64 f.k, .int .i64 f.n, .int .i64 f.c, .string f.th, .string f.el] : List Value)[j]? = some u → w6.cell? ⟨w4.heap.size, j, none⟩ = some u := fun j u hu => by
            simp [World.cell?, hh, hu]
          have x0 := hcell 0 _ rfl
          have x1 := hcell 1 _ rfl
          have x2 := hcell 2 _ rfl
          have x3 := hcell 3 _ rfl
          have x4 := hcell 4 _ rfl
          have HF6 := hide hF6
          have HB6 := hide (HB5.out.trans (hb6.mono HBW.out))
          have c2 := hF6.cp
          clear hkept hF6 hb6 hh hcell HF5 HB5 HF4 HB4 HW4 HLT4 HOW4
          obtain ⟨psn, hpsn⟩ : ∃ psn, flushF ps t = psn := ⟨_, rfl⟩
          rw [hpsn] at HF6 HNX HJ2 HFL
          clear hpsn
          have hb1 := HF6.out.rd.lt
          have hfl := HFL.out
          go_wp2_with (refine wpList_push w6 (by rfl) (.tmp 44) (.tmp 46) 22 (by rfl) (b + 1) 41 i0 (.agg #[.int .i64 0, .int .i64 0, .int .i64 0, .string ⟨#[]⟩, .string ⟨#[]⟩]) 5 56 Tryd.underlying22 hi0 hz0' hz1 hz2 rfl (by decide) pv6 psn.length (fmC psn) (by rfl) HF6.out.own 1 #[.int .i64 f.k, .int .i64 f.n, .int .i64 f.c, .string f.th, .string f.el] (by rfl) (by rfl) (by simp [Value.oneCell']) (by omega) (by decide) (by omega) ?_; intro v7 w7 ho7 hg7 ha7; obtain ⟨A7, c7, rfl⟩ := own_slice ho7; obtain ⟨k2, kf2⟩ := HF6.out.farP hg7)
          have hz := HF6.out.setP (pv' := .slice A7 (psn.length + 1) c7) (ps' := psn ++ [f]) hg7 (by rw [List.length_append, fmC_app, fmC_one]; exact ho7) ha7
          have hbz : Below b w6 (w7.setCell ⟨b, 2, none⟩ (.slice A7 (psn.length + 1) c7)) := (HF6.out.below hg7).setCell (p := ⟨b, 2, none⟩) (Nat.le_refl b) _
          have HZ9 := hide hz
          have HBZ := hide (HB6.out.trans (hbz.mono HBW.out))
          clear hz hbz
          refine ⟨?_, ?_⟩
          · first
              | exact ⟨m, p1, [], g', psn ++ [f], _, tv6, HNX.out.1, HNX.out.2.1, HNX.out.2.2.1, HNX.out.2.2.2.1, HNX.out.2.2.2.2.1, HJ2, HZ9, HBZ⟩
              | ((repeat apply Exists.intro); exact ⟨⟨m, p1, [], g', psn ++ [f], _, tv6, HNX.out.1, HNX.out.2.1, HNX.out.2.2.1, HNX.out.2.2.2.1, HNX.out.2.2.2.2.1, HJ2, HZ9, HBZ⟩, rfl⟩)
          · rw [HPOS.out]
            have h6 := HZ9.out.rd.pos
            rw [h6]
            have := HNX.out.2.2.2.2.2
            simp [intOf]; omega
      · obtain ⟨_, hd⟩ := has_drop 47 rfl hr
        rw [drop_at s p hlt] at hd
        injection hd with hd _
        unfold readF at hj
        rw [if_pos hd, ← drop_at s p hlt] at hj
        subst hj
        have HR := hide hr
        have hlen : s.size - (s.data.toList.drop p).length = p := by rw [List.length_drop, Array.length_toList]; show s.size - (s.size - p) = _; omega
        have HLEN := hide hlen
        clear hr hd hlen hlt
        go_wp2_with fail
        refine HD.out.mono ?_
        rintro e w2 ⟨rfl, hb2⟩
        have HF2 := hide (HF.out.bl hb2)
        have HB2 := hide (bl_trans HB.out hb2)
        clear hb2 HD
        go_wp2_with fail
        refine (spot_has HF2.out.rd.sp 47 true HR.out (by omega)).mono ?_
        rintro e w3 ⟨rfl, hb3⟩
        have HF3 := hide (HF2.out.bl hb3)
        have HB3 := hide (bl_trans HB2.out hb3)
        clear hb3 HF2 HB2
        go_wp2_with fail
        refine (flush_any HF3.out (by omega) (by omega)).mono ?_
        rintro e w4 ⟨rfl, _, pv4, tv4, hF4, hb4⟩
        have HF4 := hide hF4
        have HB4 := hide (HB3.out.trans (hb4.mono HBW.out))
        have c1 := hF4.rd.pos
        have c2 := hF4.cp
        clear hF4 hb4
        go_wp2
        go_quiet (fail)
        go_wp2
        go_ret3
        refine ⟨pv4, ?_, fmat_below (own_fmat HF4.out.own) (bl_drewN (bl_refl _) _), bl_drewN HB4.out _⟩
        rw [HLEN.out]; rfl
    · obtain rfl : p = s.size := by omega
      have HD := hide (spot_done' (HF.out.rd.sp) true (decide_eq_true (by omega)))
      have hnil : s.data.toList.drop s.size = [] := List.drop_eq_nil_of_le (by rw [Array.length_toList]; exact Nat.le_refl _)
      have hj := HJ.out
      rw [hnil, read_nil] at hj
      subst hj
      clear hlt
      go_wp2_with fail
      refine HD.out.mono ?_
      rintro e w2 ⟨rfl, hb2⟩
      have HB2 := hide (bl_trans HB.out hb2)
      clear hb2
      go_wp2
      go_ret3
      exact ⟨rfl, HB2.out⟩
end Go.Proofs.YtbphckblbbbakaaDoor
