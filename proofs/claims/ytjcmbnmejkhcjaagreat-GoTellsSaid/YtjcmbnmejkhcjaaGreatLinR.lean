/- The reference's answers on lines: the line of an offset, places, offsets of columns, indentation. Condition: a text that is not too long. Lines of a rope: how many, where they begin and end, the line of an offset. Condition: a text that is not too long. Lines of a rope: where they begin and end, the line of an offset, places, offsets of columns, indentation. Condition: a text that is not too long. Lines of a rope: places, offsets of columns, indentation. Condition: a text that is not too long. Layer 4's laws: lines of a text, and what every program answers that is one. Lines of a text beside a box that is older or younger than they are. -/
import Derived.Test.YtjcmbnmejkhcjaaGreatLinB
import Derived.Test.YtjcmbnmejkhcjaaGreatRpEnd
namespace Go.Proofs.YtjcmbnmejkhcjaaGreat
section
open Go.ChangeShapes Go.WideShapes Go.ChangeAt Go.RowKit
attribute [local go_sem ↓] Go.wp_at_zero Go.wp_at_succ
set_option maxRecDepth 100000
set_option linter.unusedVariables false
def atV (L : List UInt8) (off : Int) : Int := if mayR 0 off L.length = 0 then nBrk (L.take off.toNat) else 0
theorem atV_in {L : List UInt8} {p : Nat} (h : mayR 0 (p : Int) L.length = 0) : atV L p = nBrk (L.take p) := if_pos h
theorem atV_no {L : List UInt8} {off : Int} (h : mayR 0 off L.length = 3) : atV L off = 0 := if_neg (by rw [h]; decide)
theorem rof3 (l : List UInt8) (s : ByteArray) (w : World) (hs : s.size ≤ 100000000) (hl : s.data.toList = l) :
    Calls Tryz.prog 72 #[.string s] w fun e w' => e = .returned (.agg #[.int .i64 l.length, .int .i64 (nBrk l), .int .i64 (nRun l), .int .i64 (nBig l + nRun l)]) ∧ Below w.heap.size w w' := by
  subst hl; exact rof_any s w hs
theorem rby3 (l : List UInt8) (way : Int) (w : World) :
    Calls Tryz.prog 73 #[.agg #[.int .i64 l.length, .int .i64 (nBrk l), .int .i64 (nRun l), .int .i64 (nBig l + nRun l)], .int .i64 way] w fun e w' => e = .returned (.int .i64 (cnt way l)) ∧ Below w.heap.size w w' := rbytal_any l way w
theorem fld_br (a b c d : Int) (w : World) : (Instr.field 109 (.agg #[.int .i64 a, .int .i64 b, .int .i64 c, .int .i64 d]) 1).run Tryz.prog w = .ok (.int .i64 b) w := by kernel_rfl
attribute [local go_sem] fld_br
theorem rat_any (x : ByteArray) (off : Int) (w : World) (hs : x.size ≤ 100000) :
    Calls Tryz.prog 71 #[.string x, .int .i64 off] w fun e w' => e = .returned (.tuple #[.int .i64 (atV x.data.toList off), .int .i64 (mayR 0 off x.size)]) ∧ Below w.heap.size w w' := by
  have hxl : x.data.toList.length = x.size := rfl
  rcases mayR_cases 0 off x.size with ⟨hm, h1, h2, h3⟩ | ⟨hm, h1⟩
  · obtain ⟨p, rfl⟩ : ∃ p : Nat, off = p := ⟨off.toNat, by omega⟩
    rw [atV_in (by rw [hxl]; exact hm), hm]
    have hps : p ≤ x.size := by omega
    have HOF := hide (fun W => rof3 (x.data.toList.take p) (x.extract 0 p) W (by simp only [ByteArray.size_extract]; omega) (by rw [ext_take]))
    generalize x.data.toList.take p = l at *
    clear hm hxl h1 h2 h3
    go_enter Tryz.func71, Tryz.ntmps71
    go_wp2_with fail
    refine (HOF.out _).mono ?_
    rintro e w1 ⟨rfl, hb⟩
    go_wp2
    go_ret2
    exact ⟨rfl, hb⟩
  · rw [atV_no (by rw [hxl]; exact hm), hm]
    clear hm
    by_cases h0 : off < 0
    · have g0 : decide (off < 0) = true := decide_eq_true h0
      go_enter Tryz.func71, Tryz.ntmps71
      go_wp2
      go_ret2
      exact ⟨rfl, bl_refl _⟩
    · have g0 : decide (off < 0) = false := decide_eq_false h0
      have g1 : decide ((x.size : Int) < off) = true := decide_eq_true (by omega)
      go_enter Tryz.func71, Tryz.ntmps71
      go_wp2
      go_ret2
      exact ⟨rfl, bl_refl _⟩
theorem rgood_yes (way : Int) (w : World) (h : way = 0 ∨ way = 1 ∨ way = 2) : Calls Tryz.prog 70 #[.int .i64 way] w fun e w' => e = .returned (.bool true) ∧ w = w' := by
  rcases h with rfl | rfl | rfl
  all_goals
    go_enter Tryz.func70, Tryz.ntmps70
    go_wp2
    go_ret
    exact ⟨rfl, rfl⟩
theorem rgood_no (way : Int) (w : World) (h : ¬ (way = 0 ∨ way = 1 ∨ way = 2)) : Calls Tryz.prog 70 #[.int .i64 way] w fun e w' => e = .returned (.bool false) ∧ w = w' := by
  have g0 : (way == 0) = false := by simp; omega
  have g1 : (way == 1) = false := by simp; omega
  have g2 : (way == 2) = false := by simp; omega
  clear h
  go_enter Tryz.func70, Tryz.ntmps70
  go_wp2
  go_ret
  exact ⟨rfl, rfl⟩
def plC (way : Int) : Int := if way = 0 ∨ way = 1 ∨ way = 2 then 0 else 2
theorem plC_cases (way : Int) : (plC way = 0 ∧ (way = 0 ∨ way = 1 ∨ way = 2)) ∨ (plC way = 2 ∧ ¬ (way = 0 ∨ way = 1 ∨ way = 2)) := by
  unfold plC
  by_cases h : way = 0 ∨ way = 1 ∨ way = 2
  · rw [if_pos h]; exact .inl ⟨rfl, h⟩
  · rw [if_neg h]; exact .inr ⟨rfl, h⟩
/-- What Place answers: the line, the column, the code. -/
def PlIs (L : List UInt8) (off way a b e : Int) : Prop :=
  (plC way = 2 → a = 0 ∧ b = 0 ∧ e = 2) ∧ (plC way = 0 → mayR 0 off L.length = 3 → a = 0 ∧ b = 0 ∧ e = 3) ∧
  (plC way = 0 → mayR 0 off L.length = 0 → a = nBrk (L.take off.toNat) ∧ b = cnt way ((L.take off.toNat).drop (lnS L (nBrk (L.take off.toNat)))) ∧ e = 0)
theorem plIs_same {L : List UInt8} {off way a b e a' b' e' : Int} (h : PlIs L off way a b e) (g : PlIs L off way a' b' e') : a = a' ∧ b = b' ∧ e = e' := by
  rcases plC_cases way with ⟨hc, _⟩ | ⟨hc, _⟩
  · rcases mayR_cases 0 off L.length with ⟨hm, _⟩ | ⟨hm, _⟩
    · obtain ⟨rfl, rfl, rfl⟩ := h.2.2 hc hm
      obtain ⟨rfl, rfl, rfl⟩ := g.2.2 hc hm
      exact ⟨rfl, rfl, rfl⟩
    · obtain ⟨rfl, rfl, rfl⟩ := h.2.1 hc hm
      obtain ⟨rfl, rfl, rfl⟩ := g.2.1 hc hm
      exact ⟨rfl, rfl, rfl⟩
  · obtain ⟨rfl, rfl, rfl⟩ := h.1 hc
    obtain ⟨rfl, rfl, rfl⟩ := g.1 hc
    exact ⟨rfl, rfl, rfl⟩
def PlPost (L : List UInt8) (off way : Int) (w : World) (e : Ending) (w' : World) : Prop := ∃ a b c : Int, e = .returned (.tuple #[.int .i64 a, .int .i64 b, .int .i64 c]) ∧ PlIs L off way a b c ∧ Below w.heap.size w w'
theorem plIs_arg {L : List UInt8} {off way : Int} (h : plC way = 2) : PlIs L off way 0 0 2 := ⟨fun _ => ⟨rfl, rfl, rfl⟩, fun h0 => absurd (h.symm.trans h0) (by decide), fun h0 => absurd (h.symm.trans h0) (by decide)⟩
theorem plIs_rng {L : List UInt8} {off way : Int} (h : plC way = 0) (hm : mayR 0 off L.length = 3) : PlIs L off way 0 0 3 := ⟨fun h0 => absurd (h.symm.trans h0) (by decide), fun _ _ => ⟨rfl, rfl, rfl⟩, fun _ h0 => absurd (hm.symm.trans h0) (by decide)⟩
theorem plIs_in {L : List UInt8} {way : Int} {p : Nat} (h : plC way = 0) (hm : mayR 0 (p : Int) L.length = 0) {a b : Int} (ha : a = nBrk (L.take p)) (hb : b = cnt way ((L.take p).drop (lnS L (nBrk (L.take p))))) : PlIs L p way a b 0 :=
  ⟨fun h0 => absurd (h.symm.trans h0) (by decide), fun _ h0 => absurd (hm.symm.trans h0) (by decide), fun _ _ => ⟨ha, hb, rfl⟩⟩
theorem rplace_any (x : ByteArray) (off way : Int) (w : World) (hs : x.size ≤ 100000) :
    Calls Tryz.prog 40 #[.string x, .int .i64 off, .int .i64 way] w (PlPost x.data.toList off way w) := by
  have hxl : x.data.toList.length = x.size := rfl
  rcases plC_cases way with ⟨hc, hg⟩ | ⟨hc, hg⟩
  · have HG := hide (fun W => rgood_yes way W hg)
    have HAT := hide (fun W => rat_any x off W hs)
    rcases mayR_cases 0 off x.size with ⟨hm, h1, h2, h3⟩ | ⟨hm, h1⟩
    · obtain ⟨p, rfl⟩ : ∃ p : Nat, off = p := ⟨off.toNat, by omega⟩
      have hps : p ≤ x.size := by omega
      have hin := off_in x.data.toList p (by rw [hxl]; omega)
      have hbt := nBrk_take x.data.toList p
      have hbl := nBrk_le (x.data.toList.take p)
      have HPL := hide (@plIs_in x.data.toList way p hc (by rw [hxl]; exact hm) (nBrk (x.data.toList.take p)) _ rfl rfl)
      rw [atV_in (by rw [hxl]; exact hm), hm] at HAT
      have hln : lnC x.data.toList (nBrk (x.data.toList.take p)) = 0 := by unfold lnC; rw [if_pos (by omega)]
      have hst := fun W => rstart_any x (nBrk (x.data.toList.take p)) W hs
      rw [lnSv_in hln, hln] at hst
      have HST := hide hst
      obtain ⟨ln, hlnn⟩ : ∃ ln, nBrk (x.data.toList.take p) = ln := ⟨_, rfl⟩
      rw [hlnn] at HPL HST HAT hin
      obtain ⟨s, hs0⟩ : ∃ s, lnS x.data.toList ln = s := ⟨_, rfl⟩
      rw [hs0] at HPL HST hin
      have hsp : s ≤ p := hin.1
      have HOF := hide (fun W => rof3 ((x.data.toList.take p).drop s) (x.extract s p) W (by simp only [ByteArray.size_extract]; omega) (by rw [ext_mid]))
      have HBY := hide (fun W => rby3 ((x.data.toList.take p).drop s) way W)
      generalize (x.data.toList.take p).drop s = l at *
      generalize cnt way l = cw at *
      clear hst hs0 hlnn hln hin hbt hbl hm h1 h2 h3 hc hg hxl
      go_enter Tryz.func40, Tryz.ntmps40
      go_wp2_with fail
      refine (HG.out _).mono ?_
      rintro e w1 ⟨rfl, hw1⟩
      subst hw1
      go_wp2_with fail
      refine (HAT.out _).mono ?_
      rintro e w2 ⟨rfl, hb2⟩
      go_wp2_with fail
      refine (HST.out _).mono ?_
      rintro e w3 ⟨rfl, hb3⟩
      go_wp2_with fail
      refine (HOF.out _).mono ?_
      rintro e w4 ⟨rfl, hb4⟩
      go_wp2_with fail
      refine (HBY.out _).mono ?_
      rintro e w5 ⟨rfl, hb5⟩
      have hb := bl_trans (bl_trans (bl_trans hb2 hb3) hb4) hb5
      go_wp2
      go_ret3
      exact ⟨_, _, _, rfl, HPL.out, hb⟩
    · have HPL := hide (@plIs_rng x.data.toList off way hc (by rw [hxl]; exact hm))
      rw [atV_no (by rw [hxl]; exact hm), hm] at HAT
      clear hm h1 hc hg hxl
      go_enter Tryz.func40, Tryz.ntmps40
      go_wp2_with fail
      refine (HG.out _).mono ?_
      rintro e w1 ⟨rfl, hw1⟩
      subst hw1
      go_wp2_with fail
      refine (HAT.out _).mono ?_
      rintro e w2 ⟨rfl, hb2⟩
      go_wp2
      go_ret3
      exact ⟨_, _, _, rfl, HPL.out, hb2⟩
  · have HG := hide (fun W => rgood_no way W hg)
    have HPL := hide (@plIs_arg x.data.toList off way hc)
    clear hc hg hxl
    go_enter Tryz.func40, Tryz.ntmps40
    go_wp2_with fail
    refine (HG.out _).mono ?_
    rintro e w1 ⟨rfl, hw1⟩
    subst hw1
    go_wp2
    go_ret3
    exact ⟨_, _, _, rfl, HPL.out, bl_refl _⟩
/-- What Offset answers. -/
def ofE (L : List UInt8) (line col way : Int) : Int := if plC way = 0 then (if lnC L line = 0 ∧ 0 ≤ col then 0 else 3) else 2
def ofA (L : List UInt8) (line col way : Int) : Int := if ofE L line col way = 0 then ((lnS L line + upL way ((L.take (lnE L line)).drop (lnS L line)) col : Nat) : Int) else 0
theorem ofE_cases (L : List UInt8) (line col way : Int) : (ofE L line col way = 0 ∧ plC way = 0 ∧ lnC L line = 0 ∧ 0 ≤ col) ∨ (ofE L line col way = 3 ∧ ofA L line col way = 0 ∧ plC way = 0 ∧ (lnC L line = 3 ∨ (lnC L line = 0 ∧ col < 0))) ∨ (ofE L line col way = 2 ∧ ofA L line col way = 0 ∧ plC way = 2) := by
  have hA : ofE L line col way ≠ 0 → ofA L line col way = 0 := fun h => if_neg h
  rcases plC_cases way with ⟨hc, _⟩ | ⟨hc, _⟩
  · by_cases h : lnC L line = 0 ∧ 0 ≤ col
    · left
      refine ⟨?_, hc, h⟩
      unfold ofE; rw [if_pos hc, if_pos h]
    · right; left
      have h3 : ofE L line col way = 3 := by unfold ofE; rw [if_pos hc, if_neg h]
      refine ⟨h3, hA (by rw [h3]; decide), hc, ?_⟩
      rcases lnC_cases L line with ⟨h4, _⟩ | ⟨h4, _⟩
      · exact .inr ⟨h4, by omega⟩
      · exact .inl h4
  · right; right
    have h2 : ofE L line col way = 2 := by unfold ofE; rw [if_neg (by rw [hc]; decide)]
    exact ⟨h2, hA (by rw [h2]; decide), hc⟩
theorem rupto3 (l : List UInt8) (s : ByteArray) (way n : Int) (w : World) (hs : s.size ≤ 100000000) (hn : n ≤ 9223372036854775807) (h0 : 0 ≤ n) (hw : 0 ≤ way ∧ way ≤ 3) (hl : s.data.toList = l) :
    Calls Tryz.prog 76 #[.string s, .int .i64 way, .int .i64 n] w fun e w' => e = .returned (.int .i64 (upL way l n : Nat)) ∧ Below w.heap.size w w' := by
  subst hl
  have := rupto_any s way n w hs hn
  rw [show upto way n s.data.toList = (upL way s.data.toList n : Nat) from by unfold upto; rw [if_neg (by omega)]] at this
  exact this
theorem plC_way {way : Int} (h : plC way = 0) : way = 0 ∨ way = 1 ∨ way = 2 := by
  rcases plC_cases way with ⟨_, h2⟩ | ⟨h2, _⟩
  · exact h2
  · rw [h2] at h; exact absurd h (by decide)
theorem plC_no {way : Int} (h : plC way = 2) : ¬ (way = 0 ∨ way = 1 ∨ way = 2) := by
  rcases plC_cases way with ⟨h2, _⟩ | ⟨_, h2⟩
  · rw [h2] at h; exact absurd h (by decide)
  · exact h2
theorem lnC_in {L : List UInt8} {i : Int} (h : lnC L i = 0) : 0 ≤ i ∧ i ≤ nBrk L := by
  rcases lnC_cases L i with ⟨_, h2⟩ | ⟨h2, _⟩
  · exact h2
  · rw [h2] at h; exact absurd h (by decide)
theorem roffset_any (x : ByteArray) (line col way : Int) (w : World) (hs : x.size ≤ 100000) (hcol : col ≤ 9223372036854775807) :
    Calls Tryz.prog 45 #[.string x, .int .i64 line, .int .i64 col, .int .i64 way] w fun e w' => e = .returned (.tuple #[.int .i64 (ofA x.data.toList line col way), .int .i64 (ofE x.data.toList line col way)]) ∧ Below w.heap.size w w' := by
  have hxl : x.data.toList.length = x.size := rfl
  have hst := fun W => rstart_any x line W hs
  rcases ofE_cases x.data.toList line col way with ⟨he, hc, hl, h0⟩ | ⟨he, ha, hc, hl⟩ | ⟨he, ha, hc⟩
  · have ha : ofA x.data.toList line col way = ((lnS x.data.toList line + upL way ((x.data.toList.take (lnE x.data.toList line)).drop (lnS x.data.toList line)) col : Nat) : Int) := if_pos he
    rw [ha, he]
    have HG := hide (fun W => rgood_yes way W (plC_way hc))
    have hway := plC_way hc
    obtain ⟨hl0, hl1⟩ := lnC_in hl
    have hse := lnS_le x.data.toList line hl0 hl1
    have hel := lnE_le x.data.toList line
    have hen := fun W => rend_any x line W hs
    rw [lnSv_in hl, hl] at hst
    rw [lnEv_in hl, hl] at hen
    obtain ⟨s, hs0⟩ : ∃ s, lnS x.data.toList line = s := ⟨_, rfl⟩
    obtain ⟨t, ht0⟩ : ∃ t, lnE x.data.toList line = t := ⟨_, rfl⟩
    rw [hs0] at hst hse
    rw [ht0] at hen hse hel
    rw [hs0, ht0]
    have HST := hide hst
    have HEN := hide hen
    have HUP := hide (fun W => rupto3 ((x.data.toList.take t).drop s) (x.extract s t) way col W (by simp only [ByteArray.size_extract]; omega) hcol h0 (by omega) (by rw [ext_mid]))
    have hul := upL_le way ((x.data.toList.take t).drop s) col
    rw [List.length_drop, List.length_take] at hul
    obtain ⟨u, hu⟩ : ∃ u, upL way ((x.data.toList.take t).drop s) col = u := ⟨_, rfl⟩
    rw [hu] at HUP hul ⊢
    have hts : t ≤ x.size := by omega
    have hwu : IntKind.i64.wrap ((s : Int) + (u : Int)) = ((s + u : Nat) : Int) := by rw [IntWalk.i64_in _ (by omega)]; omega
    have g0 : decide (col < 0) = false := decide_eq_false (by omega)
    clear hst hen hs0 ht0 hu ha he hl hl0 hl1 hel hc hway hul hxl
    go_enter Tryz.func45, Tryz.ntmps45
    go_wp2_with fail
    refine (HG.out _).mono ?_
    rintro e w1 ⟨rfl, hw1⟩
    subst hw1
    go_wp2_with fail
    refine (HST.out _).mono ?_
    rintro e w2 ⟨rfl, hb2⟩
    go_wp2_with fail
    refine (HEN.out _).mono ?_
    rintro e w3 ⟨rfl, hb3⟩
    go_wp2_with fail
    refine (HUP.out _).mono ?_
    rintro e w4 ⟨rfl, hb4⟩
    have hb := bl_trans (bl_trans hb2 hb3) hb4
    go_wp2
    go_ret2
    exact ⟨rfl, hb⟩
  · rw [ha, he]
    have HG := hide (fun W => rgood_yes way W (plC_way hc))
    have HST := hide hst
    clear hst ha he hc hxl
    rcases hl with hl | ⟨hl, h0⟩
    · rw [lnSv_no hl, hl] at HST
      go_enter Tryz.func45, Tryz.ntmps45
      go_wp2_with fail
      refine (HG.out _).mono ?_
      rintro e w1 ⟨rfl, hw1⟩
      subst hw1
      go_wp2_with fail
      refine (HST.out _).mono ?_
      rintro e w2 ⟨rfl, hb2⟩
      go_wp2
      go_ret2
      exact ⟨rfl, hb2⟩
    · rw [lnSv_in hl, hl] at HST
      have g0 : decide (col < 0) = true := decide_eq_true h0
      go_enter Tryz.func45, Tryz.ntmps45
      go_wp2_with fail
      refine (HG.out _).mono ?_
      rintro e w1 ⟨rfl, hw1⟩
      subst hw1
      go_wp2_with fail
      refine (HST.out _).mono ?_
      rintro e w2 ⟨rfl, hb2⟩
      go_wp2
      go_ret2
      exact ⟨rfl, hb2⟩
  · rw [ha, he]
    have HG := hide (fun W => rgood_no way W (plC_no hc))
    clear hst ha he hc hxl
    go_enter Tryz.func45, Tryz.ntmps45
    go_wp2_with fail
    refine (HG.out _).mono ?_
    rintro e w1 ⟨rfl, hw1⟩
    subst hw1
    go_wp2
    go_ret2
    exact ⟨rfl, bl_refl _⟩
/-- What Indent answers. -/
def inS (x : ByteArray) (line : Int) : ByteArray := if lnC x.data.toList line = 0 then x.extract (lnS x.data.toList line) (lnS x.data.toList line + sp (x.data.toList.drop (lnS x.data.toList line))) else ⟨#[]⟩
theorem sp_go (x : ByteArray) (k : Nat) (h : k < x.size) (hc : x[k].toNat = 32 ∨ x[k].toNat = 9) : sp (x.data.toList.drop k) = 1 + sp (x.data.toList.drop (k + 1)) := by
  rw [drop_cons x k h, sp, if_pos hc]
theorem sp_stop (x : ByteArray) (k : Nat) (h : k < x.size) (hc : ¬ (x[k].toNat = 32 ∨ x[k].toNat = 9)) : sp (x.data.toList.drop k) = 0 := by
  rw [drop_cons x k h, sp, if_neg hc]
theorem sp_end (x : ByteArray) : sp (x.data.toList.drop x.size) = 0 := by
  rw [List.drop_of_length_le (by simp)]; rfl
end
section
open Go.ChangeShapes Go.WideShapes Go.ChangeAt Go.RowKit
attribute [local go_sem ↓] Go.wp_at_zero Go.wp_at_succ
attribute [local go_sem] later_cell later_frozen
set_option maxRecDepth 100000
set_option linter.unusedVariables false
/-- A rope with this text lies there. -/
def LnAt (w : World) (r : Nat) (x : ByteArray) : Prop := ∃ (w0 : World) (D : List (Nat × Nat)) (rs : List Rp) (d : Nat) (t : T), Rst w0 w D rs ∧ ((r, d, t) : Rp) ∈ rs ∧ Tx t x
theorem LnAt.bl {w w' : World} {r : Nat} {x : ByteArray} (h : LnAt w r x) (hb : Below w.heap.size w w') : LnAt w' r x := by
  obtain ⟨w0, D, rs, d, t, hR, hq, hx⟩ := h
  exact ⟨w0, D, rs, d, t, hR.bl hb, hq, hx⟩
theorem rst_ln {w0 w : World} {D : List (Nat × Nat)} {rs : List Rp} (h : Rst w0 w D rs) {r d : Nat} {t : T} (hq : (r, d, t) ∈ rs) {x : ByteArray} (hx : Tx t x) : LnAt w r x := ⟨w0, D, rs, d, t, h, hq, hx⟩
theorem ln_len {w : World} {r : Nat} {x : ByteArray} (h : LnAt w r x) : Calls Tryz.prog 16 #[.pointer (some ⟨r, 0, none⟩)] w fun e w' => e = .returned (.int .i64 x.size) ∧ w = w' := by
  obtain ⟨w0, D, rs, d, t, hR, hq, hx⟩ := h
  exact rst_len hR hq hx
theorem ln_upto {w : World} {r : Nat} {x : ByteArray} (h : LnAt w r x) (hs : x.size ≤ 100000) (way n : Int) (hn : n ≤ 9223372036854775807) (h0 : 0 ≤ n) (hw : 0 ≤ way ∧ way ≤ 3) : Calls Tryz.prog 60 #[.pointer (some ⟨r, 0, none⟩), .int .i64 way, .int .i64 n] w fun e w' => e = .returned (.int .i64 (upL way x.data.toList n : Nat)) ∧ Below w.heap.size w w' := by
  obtain ⟨w0, D, rs, d, t, hR, hq, hx⟩ := h
  have := rst_upto hR hq hx way n hn (by omega)
  rw [show upto way n x.data.toList = (upL way x.data.toList n : Nat) from by unfold upto; rw [if_neg (by omega)]] at this
  exact this
theorem ln_slc {w : World} {r : Nat} {x : ByteArray} (h : LnAt w r x) (hs : x.size ≤ 100000) (p q : Nat) (hpq : p ≤ q) (hq : q ≤ x.size) : Calls Tryz.prog 65 #[.pointer (some ⟨r, 0, none⟩), .int .i64 p, .int .i64 q] w fun e w' => e = .returned (.tuple #[.string (x.extract p q), .int .i64 0]) ∧ Below w.heap.size w w' := by
  obtain ⟨w0, D, rs, d, t, hR, hq', hx⟩ := h
  have h0 : mayR (p : Int) (q : Int) x.size = 0 := by unfold mayR; rw [if_neg (by omega)]
  have := rst_slc hR hq' hx p q (by omega)
  rw [show slcT x (p : Int) (q : Int) = x.extract p q from if_pos h0, h0] at this
  exact this
theorem ln_cnt {w : World} {r : Nat} {x : ByteArray} (h : LnAt w r x) (hs : x.size ≤ 100000) (p : Nat) (hp : p ≤ x.size) (l : List UInt8) (hl : x.data.toList.take p = l) : Calls Tryz.prog 59 #[.pointer (some ⟨r, 0, none⟩), .int .i64 p] w fun e w' => e = .returned (.tuple #[.agg #[.int .i64 l.length, .int .i64 (nBrk l), .int .i64 (nRun l), .int .i64 (nBig l + nRun l)], .int .i64 0]) ∧ Below w.heap.size w w' := by
  obtain ⟨w0, D, rs, d, t, hR, hq, hx⟩ := h
  have hlen := hx.len
  refine (count_r (hR.rp _ hq) (hR.at' hq).1 p (by rw [hlen]; omega) (by rw [hlen]; omega)).mono ?_
  rintro e w' ⟨v0, v1, v2, v3, hv, rfl, hb⟩
  rw [hx, hl]
  exact ⟨rfl, hb⟩
theorem ln_cnt_no {w : World} {r : Nat} {x : ByteArray} (h : LnAt w r x) (off : Int) (ho : off < 0 ∨ (x.size : Int) < off) : Calls Tryz.prog 59 #[.pointer (some ⟨r, 0, none⟩), .int .i64 off] w fun e w' => e = .returned (.tuple #[.agg #[.int .i64 0, .int .i64 0, .int .i64 0, .int .i64 0], .int .i64 3]) ∧ Below w.heap.size w w' := by
  obtain ⟨w0, D, rs, d, t, hR, hq, hx⟩ := h
  have hlen := hx.len
  exact count_no (hR.rp _ hq) (hR.at' hq).1 off (by rw [hlen]; exact ho)
def lnO (r : Nat) : Obj := .cells #[.pointer (some ⟨r, 0, none⟩)] 27
set_option maxHeartbeats 4000000 in
theorem many_l {w : World} {r : Nat} {x : ByteArray} (h : LnAt w r x) (hs : x.size ≤ 100000) :
    Calls Tryz.prog 63 #[.agg #[.pointer (some ⟨r, 0, none⟩)]] w fun e w' => e = .returned (.int .i64 (nBrk x.data.toList + 1)) ∧ Below w.heap.size w w' := by
  have HL := hide (fun W (hb : Below w.heap.size w W) => ln_len (h.bl hb))
  have HC := hide (fun W (hb : Below w.heap.size w W) => ln_cnt (h.bl hb) hs x.size (Nat.le_refl _) x.data.toList (List.take_of_length_le (Nat.le_refl _)))
  have hbr := nBrk_le x.data.toList
  have hxl : x.data.toList.length = x.size := rfl
  rw [hxl] at hbr
  have hw1 : IntKind.i64.wrap (nBrk x.data.toList + 1) = nBrk x.data.toList + 1 := IntWalk.i64_in _ (by omega)
  generalize x.data.toList = l at *
  generalize x.size = n at *
  clear h hxl hbr
  go_enter Tryz.func63, Tryz.ntmps63
  go_wp2
  go_region_with (first
    | (go_at_call 16; refine (HL.out _ (by repeat (first | exact bl_refl _ | refine bl_drew ?_ | refine bl_alloc ?_ _))).mono ?_; rintro e w1 ⟨rfl, rfl⟩)
    | (go_at_call 59; refine (HC.out _ (by repeat (first | exact bl_refl _ | refine bl_drew ?_ | refine bl_alloc ?_ _))).mono ?_; rintro e w2 ⟨rfl, hb2⟩; obtain ⟨u, rfl⟩ : ∃ u : Later _, w2 = u.now := ⟨⟨w2, hb2⟩, rfl⟩)
    | fail)
  all_goals
    go_wp2
    go_ret
    refine ⟨rfl, ?_⟩
    repeat (first | exact bl_refl _ | refine bl_drew ?_ | refine bl_alloc ?_ _ | refine bl_set ?_ (by first | exact Nat.le_refl _ | (simp; done) | (simp; omega)) _ | refine bl_trans ?_ u.below)
end
section
open Go.ChangeShapes Go.WideShapes Go.ChangeAt Go.RowKit
attribute [local go_sem ↓] Go.wp_at_zero Go.wp_at_succ
attribute [local go_sem] later_cell later_frozen
set_option maxRecDepth 100000
set_option linter.unusedVariables false
theorem ln_c0 (w : World) (r : Nat) : (w.alloc (.cells #[.pointer (some ⟨r, 0, none⟩)] 27)).cell? ⟨w.heap.size, 0, none⟩ = some (.pointer (some ⟨r, 0, none⟩)) := cells_lit w _ _ 0 _ rfl
theorem ln_b0 (w : World) (r : Nat) : Below w.heap.size w (w.alloc (.cells #[.pointer (some ⟨r, 0, none⟩)] 27)) := bl_alloc (bl_refl w) _
theorem mayLine_l {w : World} {r : Nat} {x : ByteArray} (h : LnAt w r x) (hs : x.size ≤ 100000) (i : Int) :
    Calls Tryz.prog 61 #[.agg #[.pointer (some ⟨r, 0, none⟩)], .int .i64 i] w fun e w' => e = .returned (.int .i64 (lnC x.data.toList i)) ∧ Below w.heap.size w w' := by
  have HM := hide (fun W (hb : Below w.heap.size w W) => many_l (h.bl hb) hs)
  have c0 := ln_c0 w r
  have hb0 := ln_b0 w r
  have hcs := lnC_cases x.data.toList i
  generalize lnC x.data.toList i = m at *
  generalize nBrk x.data.toList = n at *
  by_cases h0 : i < 0
  · have g0 : decide (i < 0) = true := decide_eq_true h0
    obtain rfl : m = 3 := by omega
    clear hcs
    go_enter Tryz.func61, Tryz.ntmps61
    go_wp2
    go_ret
    exact ⟨rfl, hb0⟩
  · have g0 : decide (i < 0) = false := decide_eq_false h0
    by_cases h1 : n + 1 ≤ i
    · have g1 : decide (n + 1 ≤ i) = true := decide_eq_true h1
      obtain rfl : m = 3 := by omega
      clear hcs
      go_enter Tryz.func61, Tryz.ntmps61
      go_wp2_with fail
      refine (HM.out _ hb0).mono ?_
      rintro e w1 ⟨rfl, hb1⟩
      go_wp2
      go_ret
      exact ⟨rfl, bl_trans hb0 hb1⟩
    · have g1 : decide (n + 1 ≤ i) = false := decide_eq_false h1
      obtain rfl : m = 0 := by omega
      clear hcs
      go_enter Tryz.func61, Tryz.ntmps61
      go_wp2_with fail
      refine (HM.out _ hb0).mono ?_
      rintro e w1 ⟨rfl, hb1⟩
      go_wp2
      go_ret
      exact ⟨rfl, bl_trans hb0 hb1⟩
theorem start_l {w : World} {r : Nat} {x : ByteArray} (h : LnAt w r x) (hs : x.size ≤ 100000) (i : Int) :
    Calls Tryz.prog 33 #[.agg #[.pointer (some ⟨r, 0, none⟩)], .int .i64 i] w fun e w' => e = .returned (.tuple #[.int .i64 (lnSv x.data.toList i), .int .i64 (lnC x.data.toList i)]) ∧ Below w.heap.size w w' := by
  have HM := hide (fun W (hb : Below w.heap.size w W) => mayLine_l (h.bl hb) hs i)
  have c0 := ln_c0 w r
  have hb0 := ln_b0 w r
  have hxl : x.data.toList.length = x.size := rfl
  have hbr := nBrk_le x.data.toList
  rcases lnC_cases x.data.toList i with ⟨hl, h0, h1⟩ | ⟨hl, h1⟩
  · rw [lnSv_in hl, hl]
    rw [hl] at HM
    unfold lnS
    by_cases hz : i = 0
    · subst hz
      rw [if_pos rfl]
      clear hl h0 h1 hbr hxl
      go_enter Tryz.func33, Tryz.ntmps33
      go_wp2_with fail
      refine (HM.out _ hb0).mono ?_
      rintro e w1 ⟨rfl, hb1⟩
      go_wp2
      go_ret2
      exact ⟨rfl, bl_trans hb0 hb1⟩
    · rw [if_neg hz]
      have gz : (i == 0) = false := by simp; exact hz
      have hw1 : IntKind.i64.wrap (i - 1) = i - 1 := IntWalk.i64_in _ (by omega)
      have HU := hide (fun W (hb : Below w.heap.size w W) => ln_upto (h.bl hb) hs 3 (i - 1) (by omega) (by omega) (by omega))
      have hul := upL_le 3 x.data.toList (i - 1)
      obtain ⟨u, hu⟩ : ∃ u, upL 3 x.data.toList (i - 1) = u := ⟨_, rfl⟩
      rw [hu] at HU hul ⊢
      have hw2 : IntKind.i64.wrap ((u : Int) + 1) = ((u + 1 : Nat) : Int) := by rw [IntWalk.i64_in _ (by omega)]; omega
      clear hl h0 h1 hbr hxl hu hul
      go_enter Tryz.func33, Tryz.ntmps33
      go_wp2_with fail
      refine (HM.out _ hb0).mono ?_
      rintro e w1 ⟨rfl, hb1⟩
      have c0 := cell_later hb1 c0
      have hb1 := bl_trans hb0 hb1
      go_wp2_with fail
      refine (HU.out _ hb1).mono ?_
      rintro e w2 ⟨rfl, hb2⟩
      go_wp2
      go_ret2
      exact ⟨rfl, bl_trans hb1 hb2⟩
  · rw [lnSv_no hl, hl]
    rw [hl] at HM
    clear hl h1 hbr hxl
    go_enter Tryz.func33, Tryz.ntmps33
    go_wp2_with fail
    refine (HM.out _ hb0).mono ?_
    rintro e w1 ⟨rfl, hb1⟩
    go_wp2
    go_ret2
    exact ⟨rfl, bl_trans hb0 hb1⟩
theorem end_l {w : World} {r : Nat} {x : ByteArray} (h : LnAt w r x) (hs : x.size ≤ 100000) (i : Int) :
    Calls Tryz.prog 34 #[.agg #[.pointer (some ⟨r, 0, none⟩)], .int .i64 i] w fun e w' => e = .returned (.tuple #[.int .i64 (lnEv x.data.toList i), .int .i64 (lnC x.data.toList i)]) ∧ Below w.heap.size w w' := by
  have HM := hide (fun W (hb : Below w.heap.size w W) => mayLine_l (h.bl hb) hs i)
  have c0 := ln_c0 w r
  have hb0 := ln_b0 w r
  have hxl : x.data.toList.length = x.size := rfl
  have hbr := nBrk_le x.data.toList
  rcases lnC_cases x.data.toList i with ⟨hl, h0, h1⟩ | ⟨hl, h1⟩
  · rw [lnEv_in hl, hl]
    rw [hl] at HM
    unfold lnE
    have HU := hide (fun W (hb : Below w.heap.size w W) => ln_upto (h.bl hb) hs 3 i (by omega) (by omega) (by omega))
    obtain ⟨u, hu⟩ : ∃ u, upL 3 x.data.toList i = u := ⟨_, rfl⟩
    rw [hu] at HU ⊢
    clear hl h0 h1 hbr hxl hu
    go_enter Tryz.func34, Tryz.ntmps34
    go_wp2_with fail
    refine (HM.out _ hb0).mono ?_
    rintro e w1 ⟨rfl, hb1⟩
    have c0 := cell_later hb1 c0
    have hb1 := bl_trans hb0 hb1
    go_wp2_with fail
    refine (HU.out _ hb1).mono ?_
    rintro e w2 ⟨rfl, hb2⟩
    go_wp2
    go_ret2
    exact ⟨rfl, bl_trans hb1 hb2⟩
  · rw [lnEv_no hl, hl]
    rw [hl] at HM
    clear hl h1 hbr hxl
    go_enter Tryz.func34, Tryz.ntmps34
    go_wp2_with fail
    refine (HM.out _ hb0).mono ?_
    rintro e w1 ⟨rfl, hb1⟩
    go_wp2
    go_ret2
    exact ⟨rfl, bl_trans hb0 hb1⟩
theorem at_l {w : World} {r : Nat} {x : ByteArray} (h : LnAt w r x) (hs : x.size ≤ 100000) (off : Int) :
    Calls Tryz.prog 32 #[.agg #[.pointer (some ⟨r, 0, none⟩)], .int .i64 off] w fun e w' => e = .returned (.tuple #[.int .i64 (atV x.data.toList off), .int .i64 (mayR 0 off x.size)]) ∧ Below w.heap.size w w' := by
  have c0 := ln_c0 w r
  have hb0 := ln_b0 w r
  have hxl : x.data.toList.length = x.size := rfl
  rcases mayR_cases 0 off x.size with ⟨hm, h1, h2, h3⟩ | ⟨hm, h1⟩
  · obtain ⟨p, rfl⟩ : ∃ p : Nat, off = p := ⟨off.toNat, by omega⟩
    rw [atV_in (by rw [hxl]; exact hm), hm]
    have HC := hide (fun W (hb : Below w.heap.size w W) => ln_cnt (h.bl hb) hs p (by omega) _ rfl)
    generalize x.data.toList.take p = l at *
    clear hm hxl h1 h2 h3
    go_enter Tryz.func32, Tryz.ntmps32
    go_wp2_with fail
    refine (HC.out _ hb0).mono ?_
    rintro e w1 ⟨rfl, hb1⟩
    have hb1 := bl_trans hb0 hb1
    go_wp2
    go_ret2
    exact ⟨rfl, bl_alloc hb1 _⟩
  · rw [atV_no (by rw [hxl]; exact hm), hm]
    have HC := hide (fun W (hb : Below w.heap.size w W) => ln_cnt_no (h.bl hb) off (by omega))
    clear hm hxl h1
    go_enter Tryz.func32, Tryz.ntmps32
    go_wp2_with fail
    refine (HC.out _ hb0).mono ?_
    rintro e w1 ⟨rfl, hb1⟩
    have hb1 := bl_trans hb0 hb1
    go_wp2
    go_ret2
    exact ⟨rfl, bl_alloc hb1 _⟩
theorem mayColumn_yes (r : Nat) (way : Int) (w : World) (h : way = 0 ∨ way = 1 ∨ way = 2) :
    Calls Tryz.prog 88 #[.agg #[.pointer (some ⟨r, 0, none⟩)], .int .i64 way] w fun e w' => e = .returned (.int .i64 0) ∧ Below w.heap.size w w' := by
  have hb0 := ln_b0 w r
  rcases h with rfl | rfl | rfl
  all_goals
    go_enter Tryz.func88, Tryz.ntmps88
    go_wp2
    go_ret
    exact ⟨rfl, hb0⟩
theorem mayColumn_no (r : Nat) (way : Int) (w : World) (h : ¬ (way = 0 ∨ way = 1 ∨ way = 2)) :
    Calls Tryz.prog 88 #[.agg #[.pointer (some ⟨r, 0, none⟩)], .int .i64 way] w fun e w' => e = .returned (.int .i64 2) ∧ Below w.heap.size w w' := by
  have hb0 := ln_b0 w r
  have g0 : (way == 0) = false := by simp; omega
  have g1 : (way == 1) = false := by simp; omega
  have g2 : (way == 2) = false := by simp; omega
  have n0 : (way != 0) = true := by simp; omega
  have n1 : (way != 1) = true := by simp; omega
  have n2 : (way != 2) = true := by simp; omega
  have p0 : ¬ way = 0 := by omega
  have p1 : ¬ way = 1 := by omega
  have p2 : ¬ way = 2 := by omega
  clear h
  go_enter Tryz.func88, Tryz.ntmps88
  go_wp2
  go_ret
  exact ⟨rfl, hb0⟩
theorem mayColumn_l (r : Nat) (way : Int) (w : World) :
    Calls Tryz.prog 88 #[.agg #[.pointer (some ⟨r, 0, none⟩)], .int .i64 way] w fun e w' => e = .returned (.int .i64 (plC way)) ∧ Below w.heap.size w w' := by
  rcases plC_cases way with ⟨hc, h⟩ | ⟨hc, h⟩
  · rw [hc]; exact mayColumn_yes r way w h
  · rw [hc]; exact mayColumn_no r way w h
end
section
open Go.ChangeShapes Go.WideShapes Go.ChangeAt Go.RowKit
attribute [local go_sem ↓] Go.wp_at_zero Go.wp_at_succ
attribute [local go_sem] later_cell later_frozen
set_option maxRecDepth 100000
set_option linter.unusedVariables false
def talO (l : List UInt8) : Obj := .cells #[.int .i64 l.length, .int .i64 (nBrk l), .int .i64 (nRun l), .int .i64 (nBig l + nRun l)] 97
theorem tal_box {w : World} {B : Nat} {l : List UInt8} (h : w.heap[B]? = some (talO l)) : w.cell? ⟨B, 0, none⟩ = some (.int .i64 l.length) ∧ w.cell? ⟨B, 1, none⟩ = some (.int .i64 (nBrk l)) ∧ w.cell? ⟨B, 2, none⟩ = some (.int .i64 (nRun l)) ∧ w.cell? ⟨B, 3, none⟩ = some (.int .i64 (nBig l + nRun l)) := by
  refine ⟨?_, ?_, ?_, ?_⟩
  all_goals
    rw [Lib.cell_of_heap h]
    rfl
theorem heap_later {w w' : World} {B : Nat} {o : Obj} (hb : Below w.heap.size w w') (h : w.heap[B]? = some o) : w'.heap[B]? = some o := (hb.block B (Array.getElem?_eq_some_iff.1 h).1).trans h
theorem by4 (l : List UInt8) (way : Int) (w : World) :
    Calls Tryz.prog 89 #[.agg #[.int .i64 l.length, .int .i64 (nBrk l), .int .i64 (nRun l), .int .i64 (nBig l + nRun l)], .int .i64 way] w fun e w' => e = .returned (.int .i64 (cnt way l)) ∧ Below w.heap.size w w' := bytal_any l way w
theorem cnt_sub (way : Int) (L : List UInt8) (s p : Nat) (h : s ≤ p) : cnt way (L.take p) - cnt way (L.take s) = cnt way ((L.take p).drop s) := by
  have h1 := cnt_app way ((L.take p).take s) ((L.take p).drop s)
  rw [List.take_append_drop, List.take_take, Nat.min_eq_left h] at h1
  omega
set_option maxHeartbeats 4000000 in
theorem place_l {w : World} {r : Nat} {x : ByteArray} (h : LnAt w r x) (hs : x.size ≤ 100000) (off way : Int) :
    Calls Tryz.prog 62 #[.agg #[.pointer (some ⟨r, 0, none⟩)], .int .i64 off, .int .i64 way] w (PlPost x.data.toList off way w) := by
  have c0 := ln_c0 w r
  have hb0 := ln_b0 w r
  have hxl : x.data.toList.length = x.size := rfl
  have HG := hide (fun W => mayColumn_l r way W)
  rcases plC_cases way with ⟨hc, hg⟩ | ⟨hc, hg⟩
  · rw [hc] at HG
    rcases mayR_cases 0 off x.size with ⟨hm, h1, h2, h3⟩ | ⟨hm, h1⟩
    · obtain ⟨p, rfl⟩ : ∃ p : Nat, off = p := ⟨off.toNat, by omega⟩
      have hps : p ≤ x.size := by omega
      have hin := off_in x.data.toList p (by rw [hxl]; omega)
      have hbt := nBrk_take x.data.toList p
      have hbl := nBrk_le (x.data.toList.take p)
      have HPL := hide (@plIs_in x.data.toList way p hc (by rw [hxl]; exact hm) (nBrk (x.data.toList.take p)) _ rfl rfl)
      have hln : lnC x.data.toList (nBrk (x.data.toList.take p)) = 0 := by unfold lnC; rw [if_pos (by omega)]
      have hst := fun W (hb : Below w.heap.size w W) => start_l (h.bl hb) hs (nBrk (x.data.toList.take p))
      rw [lnSv_in hln, hln] at hst
      have HST := hide hst
      have hsp : lnS x.data.toList (nBrk (x.data.toList.take p)) ≤ p := hin.1
      have HC1 := hide (fun W (hb : Below w.heap.size w W) => ln_cnt (h.bl hb) hs p hps _ rfl)
      have HC2 := hide (fun W (hb : Below w.heap.size w W) => ln_cnt (h.bl hb) hs (lnS x.data.toList (nBrk (x.data.toList.take p))) (by omega) _ rfl)
      have hsub := cnt_sub way x.data.toList _ p hsp
      have hbd := cnt_bd way (x.data.toList.take p)
      have hbd2 := cnt_bd way (x.data.toList.take (lnS x.data.toList (nBrk (x.data.toList.take p))))
      have hlp : (x.data.toList.take p).length = p := by rw [List.length_take]; omega
      have hwsub : IntKind.i64.wrap (cnt way (x.data.toList.take p) - cnt way (x.data.toList.take (lnS x.data.toList (nBrk (x.data.toList.take p))))) = cnt way ((x.data.toList.take p).drop (lnS x.data.toList (nBrk (x.data.toList.take p)))) := (IntWalk.i64_in _ (by
        have := List.length_take_le (lnS x.data.toList (nBrk (x.data.toList.take p))) x.data.toList
        have h4 : (x.data.toList.take (lnS x.data.toList (nBrk (x.data.toList.take p)))).length ≤ p := by omega
        omega)).trans hsub
      have HB1 := hide (fun W => by4 (x.data.toList.take p) way W)
      have HB2 := hide (fun W => by4 (x.data.toList.take (lnS x.data.toList (nBrk (x.data.toList.take p)))) way W)
      generalize cnt way ((x.data.toList.take p).drop (lnS x.data.toList (nBrk (x.data.toList.take p)))) = cw at *
      clear hsub hbd hbd2 hlp hst hln hin hbt hbl
      generalize x.data.toList.take (lnS x.data.toList (nBrk (x.data.toList.take p))) = l2 at *
      generalize lnS x.data.toList (nBrk (x.data.toList.take p)) = s at *
      generalize x.data.toList.take p = l1 at *
      generalize cnt way l1 = k1 at *
      generalize cnt way l2 = k2 at *
      clear hm h1 h2 h3 hc hg hxl h
      go_enter Tryz.func62, Tryz.ntmps62
      go_wp2_with fail
      refine (HG.out _).mono ?_
      rintro e w1 ⟨rfl, hb1⟩
      have c0 := cell_later hb1 c0
      have hb1 := bl_trans hb0 hb1
      go_wp2_with fail
      refine (HC1.out _ hb1).mono ?_
      rintro e w2 ⟨rfl, hb2⟩
      have hb2' := bl_alloc hb2 (talO l1)
      have c0 := cell_later hb2' c0
      have hh := heap_alloc_new w2 (talO l1)
      obtain ⟨t0, t1, t2, t3⟩ := tal_box hh
      have hb3 := bl_trans hb1 hb2'
      unfold talO at t0 t1 t2 t3 hb3 c0
      go_wp2_with fail
      refine (HST.out _ hb3).mono ?_
      rintro e w3 ⟨rfl, hb4⟩
      have c0 := cell_later hb4 c0
      have hb5 := bl_trans hb3 hb4
      have hh := heap_later hb4 hh
      clear t0 t1 t2 t3
      go_wp2_with fail
      refine (HC2.out _ hb5).mono ?_
      rintro e w4 ⟨rfl, hb6⟩
      have hb7 := bl_alloc hb6 (talO l2)
      have hh4 := heap_later hb6 hh
      obtain ⟨y0, y1, y2, y3⟩ := tal_box hh4
      have hn4 := (Array.getElem?_eq_some_iff.1 hh4).1
      have hn5 : w2.heap.size < w4.heap.size + 1 := by omega
      have hn6 : w4.heap.size < w4.heap.size + 1 := by omega
      have hh := heap_later hb7 hh
      obtain ⟨t0, t1, t2, t3⟩ := tal_box hh
      obtain ⟨v0, v1, v2, v3⟩ := tal_box (heap_alloc_new w4 (talO l2))
      have hn1 := (Array.getElem?_eq_some_iff.1 hh).1
      have hn2 := (Array.getElem?_eq_some_iff.1 (heap_alloc_new w4 (talO l2))).1
      have hb8 := bl_trans hb5 hb7
      unfold talO at t0 t1 t2 t3 v0 v1 v2 v3 hb8 hn1 hn2
      clear hh hh4 hb7 c0
      go_wp2
      refine wp_region_later (by kernel_rfl) (by kernel_rfl) ?_
      repeat (go_big_quiet_step (first
        | (go_at_call_of 89 (Value.agg #[.int .i64 l1.length, .int .i64 (nBrk l1), .int .i64 (nRun l1), .int .i64 (nBig l1 + nRun l1)]); exact later_call (HB1.out _))
        | (go_at_call_of 89 (Value.agg #[.int .i64 l2.length, .int .i64 (nBrk l2), .int .i64 (nRun l2), .int .i64 (nBig l2 + nRun l2)]); exact later_call (HB2.out _))
        | exact rfl))
      refine wpQuiet_nil ?_
      rintro w9 ⟨⟨_, hb9⟩, rfl⟩
      have hb := bl_trans hb8 hb9
      go_wp2
      go_ret3
      exact ⟨_, _, _, rfl, HPL.out, hb⟩
    · have HPL := hide (@plIs_rng x.data.toList off way hc (by rw [hxl]; exact hm))
      have HC := hide (fun W (hb : Below w.heap.size w W) => ln_cnt_no (h.bl hb) off (by omega))
      clear hm h1 hc hg hxl h
      go_enter Tryz.func62, Tryz.ntmps62
      go_wp2_with fail
      refine (HG.out _).mono ?_
      rintro e w1 ⟨rfl, hb1⟩
      have c0 := cell_later hb1 c0
      have hb1 := bl_trans hb0 hb1
      go_wp2_with fail
      refine (HC.out _ hb1).mono ?_
      rintro e w2 ⟨rfl, hb2⟩
      have hb := bl_alloc (bl_trans hb1 hb2) (.cells #[.int .i64 0, .int .i64 0, .int .i64 0, .int .i64 0] 97)
      go_wp2
      go_ret3
      exact ⟨_, _, _, rfl, HPL.out, hb⟩
  · rw [hc] at HG
    have HPL := hide (@plIs_arg x.data.toList off way hc)
    clear hc hg hxl h
    go_enter Tryz.func62, Tryz.ntmps62
    go_wp2_with fail
    refine (HG.out _).mono ?_
    rintro e w1 ⟨rfl, hb1⟩
    have hb := bl_trans hb0 hb1
    go_wp2
    go_ret3
    exact ⟨_, _, _, rfl, HPL.out, hb⟩
set_option maxHeartbeats 4000000 in
theorem offset_l {w : World} {r : Nat} {x : ByteArray} (h : LnAt w r x) (hs : x.size ≤ 100000) (line col way : Int) (hcol : col ≤ 9223372036854775807) :
    Calls Tryz.prog 64 #[.agg #[.pointer (some ⟨r, 0, none⟩)], .int .i64 line, .int .i64 col, .int .i64 way] w fun e w' => e = .returned (.tuple #[.int .i64 (ofA x.data.toList line col way), .int .i64 (ofE x.data.toList line col way)]) ∧ Below w.heap.size w w' := by
  have c0 := ln_c0 w r
  have hb0 := ln_b0 w r
  have hxl : x.data.toList.length = x.size := rfl
  have HG := hide (fun W => mayColumn_l r way W)
  have HM := hide (fun W (hb : Below w.heap.size w W) => mayLine_l (h.bl hb) hs line)
  rcases ofE_cases x.data.toList line col way with ⟨he, hc, hl, h0⟩ | ⟨he, ha, hc, hl⟩ | ⟨he, ha, hc⟩
  · have ha : ofA x.data.toList line col way = ((lnS x.data.toList line + upL way ((x.data.toList.take (lnE x.data.toList line)).drop (lnS x.data.toList line)) col : Nat) : Int) := if_pos he
    rw [ha, he]
    rw [hc] at HG
    rw [hl] at HM
    have hway := plC_way hc
    obtain ⟨hl0, hl1⟩ := lnC_in hl
    have hse := lnS_le x.data.toList line hl0 hl1
    have hel := lnE_le x.data.toList line
    have hst := fun W (hb : Below w.heap.size w W) => start_l (h.bl hb) hs line
    have hen := fun W (hb : Below w.heap.size w W) => end_l (h.bl hb) hs line
    rw [lnSv_in hl, hl] at hst
    rw [lnEv_in hl, hl] at hen
    obtain ⟨s, hs0⟩ : ∃ s, lnS x.data.toList line = s := ⟨_, rfl⟩
    obtain ⟨t, ht0⟩ : ∃ t, lnE x.data.toList line = t := ⟨_, rfl⟩
    rw [hs0] at hst hse
    rw [ht0] at hen hse hel
    rw [hs0, ht0]
    have HST := hide hst
    have HEN := hide hen
    obtain ⟨hmin, hall⟩ := off_eq way x.data.toList s t col hse hel h0
    obtain ⟨u, hu⟩ : ∃ u, s + upL way ((x.data.toList.take t).drop s) col = u := ⟨_, rfl⟩
    rw [hu] at hmin hall ⊢
    have hts : t ≤ x.size := by omega
    have hw1 : IntKind.i64.wrap ((t : Int) - (s : Int)) = (t : Int) - (s : Int) := IntWalk.i64_in _ (by omega)
    have hw2 : IntKind.i64.wrap (2 * ((t : Int) - (s : Int))) = 2 * ((t : Int) - (s : Int)) := IntWalk.i64_in _ (by omega)
    have g0 : decide (col < 0) = false := decide_eq_false (by omega)
    by_cases hbig : 2 * ((t : Int) - s) ≤ col
    · have g1 : decide (2 * ((t : Int) - (s : Int)) ≤ col) = true := decide_eq_true hbig
      have hut := hall hbig
      subst hut
      clear hst hen hs0 ht0 hu ha he hl hl0 hl1 hel hc hway hxl hmin hall hbig
      go_enter Tryz.func64, Tryz.ntmps64
      go_wp2_with fail
      refine (HG.out _).mono ?_
      rintro e w1 ⟨rfl, hb1⟩
      have c0 := cell_later hb1 c0
      have hb1 := bl_trans hb0 hb1
      go_wp2_with fail
      refine (HM.out _ hb1).mono ?_
      rintro e w2 ⟨rfl, hb2⟩
      have c0 := cell_later hb2 c0
      have hb2 := bl_trans hb1 hb2
      go_wp2_with fail
      refine (HST.out _ hb2).mono ?_
      rintro e w3 ⟨rfl, hb3⟩
      have c0 := cell_later hb3 c0
      have hb3 := bl_trans hb2 hb3
      go_wp2_with fail
      refine (HEN.out _ hb3).mono ?_
      rintro e w4 ⟨rfl, hb4⟩
      have hb4 := bl_trans hb3 hb4
      go_wp2
      go_ret2
      exact ⟨rfl, hb4⟩
    · have g1 : decide (2 * ((t : Int) - (s : Int)) ≤ col) = false := decide_eq_false hbig
      have hbd := cnt_bd way (x.data.toList.take s)
      have hls : (x.data.toList.take s).length = s := by rw [List.length_take]; omega
      have HC := hide (fun W (hb : Below w.heap.size w W) => ln_cnt (h.bl hb) hs s (by omega) _ rfl)
      have HBY := hide (fun W => by4 (x.data.toList.take s) way W)
      have HUP := hide (fun W (hb : Below w.heap.size w W) => ln_upto (h.bl hb) hs way (cnt way (x.data.toList.take s) + col) (by omega) (by omega) (by omega))
      have hw3 : IntKind.i64.wrap (cnt way (x.data.toList.take s) + col) = cnt way (x.data.toList.take s) + col := IntWalk.i64_in _ (by omega)
      have hvl := upL_le way x.data.toList (cnt way (x.data.toList.take s) + col)
      generalize upL way x.data.toList (cnt way (x.data.toList.take s) + col) = v at *
      generalize x.data.toList.take s = l1 at *
      generalize cnt way l1 = k1 at *
      clear hst hen hs0 ht0 hu ha he hl hl0 hl1 hel hc hway hall hbig hbd hls
      go_enter Tryz.func64, Tryz.ntmps64
      go_wp2_with fail
      refine (HG.out _).mono ?_
      rintro e w1 ⟨rfl, hb1⟩
      have c0 := cell_later hb1 c0
      have hb1 := bl_trans hb0 hb1
      go_wp2_with fail
      refine (HM.out _ hb1).mono ?_
      rintro e w2 ⟨rfl, hb2⟩
      have c0 := cell_later hb2 c0
      have hb2 := bl_trans hb1 hb2
      go_wp2_with fail
      refine (HST.out _ hb2).mono ?_
      rintro e w3 ⟨rfl, hb3⟩
      have c0 := cell_later hb3 c0
      have hb3 := bl_trans hb2 hb3
      go_wp2_with fail
      refine (HEN.out _ hb3).mono ?_
      rintro e w4 ⟨rfl, hb4⟩
      have c0 := cell_later hb4 c0
      have hb4 := bl_trans hb3 hb4
      go_wp2_with fail
      refine (HC.out _ hb4).mono ?_
      rintro e w5 ⟨rfl, hb5⟩
      have hb6 := bl_alloc hb5 (talO l1)
      have z0 := cell_later hb5 c0
      have hn4 := World.block_lt_of_cell? _ _ z0
      have hn5 : w.heap.size < w5.heap.size + 1 := Nat.lt_succ_of_lt hn4
      have hn6 : w5.heap.size < w5.heap.size + 1 := by omega
      have c0 := cell_later hb6 c0
      have hnc := World.block_lt_of_cell? _ _ c0
      obtain ⟨t0, t1, t2, t3⟩ := tal_box (heap_alloc_new w5 (talO l1))
      have hn2 := (Array.getElem?_eq_some_iff.1 (heap_alloc_new w5 (talO l1))).1
      have hb7 := bl_trans hb4 hb6
      unfold talO at t0 t1 t2 t3 hb7 hn2 hnc c0
      clear hb6
      go_wp2
      refine wp_region_later (by kernel_rfl) (by kernel_rfl) ?_
      repeat (go_big_quiet_step (first
        | (go_at_call 89; exact later_call (HBY.out _))
        | (go_at_call 60; exact later_call (HUP.out _ (bl_trans hb7 (Later.below _))))
        | exact rfl))
      refine wpQuiet_nil ?_
      rintro w9 ⟨⟨_, hb9⟩, rfl⟩
      have hb := bl_trans hb7 hb9
      go_wp2
      go_ret2
      exact ⟨rfl, hb⟩
  · rw [ha, he]
    rw [hc] at HG
    clear ha he hc hxl
    rcases hl with hl | ⟨hl, h0⟩
    · rw [hl] at HM
      go_enter Tryz.func64, Tryz.ntmps64
      go_wp2_with fail
      refine (HG.out _).mono ?_
      rintro e w1 ⟨rfl, hb1⟩
      have c0 := cell_later hb1 c0
      have hb1 := bl_trans hb0 hb1
      go_wp2_with fail
      refine (HM.out _ hb1).mono ?_
      rintro e w2 ⟨rfl, hb2⟩
      have hb2 := bl_trans hb1 hb2
      go_wp2
      go_ret2
      exact ⟨rfl, hb2⟩
    · rw [hl] at HM
      have g0 : decide (col < 0) = true := decide_eq_true h0
      go_enter Tryz.func64, Tryz.ntmps64
      go_wp2_with fail
      refine (HG.out _).mono ?_
      rintro e w1 ⟨rfl, hb1⟩
      have c0 := cell_later hb1 c0
      have hb1 := bl_trans hb0 hb1
      go_wp2_with fail
      refine (HM.out _ hb1).mono ?_
      rintro e w2 ⟨rfl, hb2⟩
      have hb2 := bl_trans hb1 hb2
      go_wp2
      go_ret2
      exact ⟨rfl, hb2⟩
  · rw [ha, he]
    rw [hc] at HG
    clear ha he hc hxl
    go_enter Tryz.func64, Tryz.ntmps64
    go_wp2_with fail
    refine (HG.out _).mono ?_
    rintro e w1 ⟨rfl, hb1⟩
    have hb1 := bl_trans hb0 hb1
    go_wp2
    go_ret2
    exact ⟨rfl, hb1⟩
theorem inS_eq (x : ByteArray) (line : Int) (hl : lnC x.data.toList line = 0) : inS x line = (x.extract (lnS x.data.toList line) (lnE x.data.toList line)).extract 0 (sp (x.extract (lnS x.data.toList line) (lnE x.data.toList line)).data.toList) := by
  obtain ⟨h0, h1⟩ := lnC_in hl
  have hse := lnS_le x.data.toList line h0 h1
  have hel := lnE_le x.data.toList line
  have hsl := sp_line x.data.toList line h0 h1
  have hle := sp_le ((x.data.toList.take (lnE x.data.toList line)).drop (lnS x.data.toList line))
  rw [List.length_drop, List.length_take] at hle
  rw [show inS x line = x.extract (lnS x.data.toList line) (lnS x.data.toList line + sp (x.data.toList.drop (lnS x.data.toList line))) from if_pos hl]
  apply str_ext
  rw [ext_mid, ext_take, ext_mid, hsl]
  generalize lnS x.data.toList line = s at *
  generalize lnE x.data.toList line = t at *
  generalize sp ((x.data.toList.take t).drop s) = k at *
  rw [List.drop_take, List.drop_take, List.take_take]
  congr 1
  omega
end
section
open Go.ChangeShapes Go.WideShapes Go.ChangeAt Go.RowKit
attribute [local go_sem ↓] Go.wp_at_zero Go.wp_at_succ
attribute [local go_sem] later_cell later_frozen
set_option maxRecDepth 100000
set_option linter.unusedVariables false
theorem Rst.base {w w1 w' : World} {D : List (Nat × Nat)} {rs : List Rp} (h : Rst w1 w' D rs) (hb : Below w.heap.size w w1) : Rst w w' D rs := by
  have hsz := hb.size
  exact ⟨bl_trans hb h.bel, h.dc, h.rp, fun k hk => ⟨Nat.le_trans hsz (h.rsv k hk).1, (h.rsv k hk).2⟩, h.nd, h.rd, h.dd, h.own, h.tn, h.off, fun k hk => Nat.le_trans hsz (h.src k hk)⟩
theorem Rst.setO {w0 w : World} {D : List (Nat × Nat)} {rs : List Rp} (h : Rst w0 w D rs) {B : Nat} (hB : w0.heap.size ≤ B) (hne : B ∉ RR D rs) (hoff : B ∉ bks (trs rs)) (o : Nat) (u : Value) : Rst w0 (w.setCell ⟨B, o, none⟩ u) D rs := by
  have hb : ∀ k, k ≠ B → (w.setCell ⟨B, o, none⟩ u).heap[k]? = w.heap[k]? := fun k hk => Below.heap_setCell w _ _ k hk
  have hsz : (w.setCell ⟨B, o, none⟩ u).heap.size = w.heap.size := by simp [World.setCell]
  refine ⟨bl_set h.bel hB u, fun p hp => ?_, fun q hq => ?_, fun k hk => ⟨(h.rsv k hk).1, by rw [hsz]; exact (h.rsv k hk).2⟩, h.nd, h.rd, h.dd, fun t ht => ?_, h.tn, h.off, h.src⟩
  · obtain ⟨rest, last, hd⟩ := h.dc p hp
    exact ⟨rest, last, hd.kept (hb _ (fun e => hne (e ▸ rr_d hp))) (hb _ (fun e => hne (e ▸ rr_g hp)))⟩
  · exact (hb _ (fun e => hne (e ▸ rr_r hq))).trans (h.rp q hq)
  · obtain ⟨h1, h2⟩ := h.own t ht
    exact ⟨h1.kept t (fun k hk => hb k (by rintro rfl; exact hoff (List.mem_flatMap.2 ⟨t, ht, hk⟩))), h2⟩
theorem lnOf_any (v : Value) (hv : ∃ a, v = .pointer a) (w : World) : Calls Tryz.prog 13 #[v] w fun e w' => e = .returned (.agg #[v]) ∧ Below w.heap.size w w' := by
  obtain ⟨a, rfl⟩ := hv
  have hb0 : Below w.heap.size w (w.alloc (.cells #[.pointer a] 27)) := bl_alloc (bl_refl w) _
  go_enter Tryz.func13, Tryz.ntmps13
  go_wp2
  refine bodyPost_ret (v := .agg #[.pointer a]) (by simp [results, Tryz.results13, go_sem]) rfl ⟨rfl, ?_⟩
  first
  | exact hb0
  | exact bl_set (bl_alloc (bl_refl _) _) (Nat.le_refl _) _
def OfPost (w : World) (x : ByteArray) (e : Ending) (w' : World) : Prop := ∃ r : Nat, e = .returned (.tuple #[.agg #[.pointer (some ⟨r, 0, none⟩)], .bool true]) ∧ LnAt w' r x ∧ Below w.heap.size w w'
theorem ex_s : lnSv (⟨#[97, 98, 10, 9, 99]⟩ : ByteArray).data.toList 1 = 3 := by decide +kernel
theorem ex_c : lnC (⟨#[97, 98, 10, 9, 99]⟩ : ByteArray).data.toList 1 = 0 := by decide +kernel
theorem ex_i : inS (⟨#[97, 98, 10, 9, 99]⟩ : ByteArray) 1 = ⟨#[9]⟩ := str_ext (by decide +kernel)
theorem ex_a : ofA (⟨#[97, 98, 10, 9, 99]⟩ : ByteArray).data.toList 0 9 0 = 2 := by decide +kernel
theorem ex_e : ofE (⟨#[97, 98, 10, 9, 99]⟩ : ByteArray).data.toList 0 9 0 = 0 := by decide +kernel
theorem ex_m : nBrk (⟨#[97, 98, 10, 9, 99]⟩ : ByteArray).data.toList + 1 = 2 := by decide +kernel
end
section
open Go.ChangeShapes Go.WideShapes Go.ChangeAt Go.RowKit
attribute [local go_sem ↓] Go.wp_at_zero Go.wp_at_succ
attribute [local go_sem] later_cell later_frozen
set_option maxRecDepth 100000
set_option linter.unusedVariables false
theorem heap_set_same (a b : World) (p : Addr) (u : Value) (h : a.heap[p.block]? = b.heap[p.block]?) : (a.setCell p u).heap[p.block]? = (b.setCell p u).heap[p.block]? := by
  simp only [World.setCell, Array.getElem?_modify, if_true, h]
theorem bl_both {a b : World} {B o : Nat} {u : Value} (h : Below a.heap.size a b) (hB : B < a.heap.size) : Below (a.setCell ⟨B, o, none⟩ u).heap.size (a.setCell ⟨B, o, none⟩ u) (b.setCell ⟨B, o, none⟩ u) := by
  have e1 : (a.setCell ⟨B, o, none⟩ u).heap.size = a.heap.size := by simp [World.setCell]
  have e2 : (b.setCell ⟨B, o, none⟩ u).heap.size = b.heap.size := by simp [World.setCell]
  refine ⟨h.os, h.tape, h.output, by rw [e1, e2]; exact h.size, fun k hk => ?_⟩
  rw [e1] at hk
  by_cases hkB : k = B
  · subst hkB; exact (heap_set_same a b ⟨k, o, none⟩ u (h.block k hk).symm).symm
  · rw [Below.heap_setCell _ _ _ _ hkB, Below.heap_setCell _ _ _ _ hkB]; exact h.block k hk
theorem Rst.setOld {w0 w : World} {D : List (Nat × Nat)} {rs : List Rp} (h : Rst w0 w D rs) {B : Nat} (hB : B < w0.heap.size) (o : Nat) (u : Value) : Rst (w0.setCell ⟨B, o, none⟩ u) (w.setCell ⟨B, o, none⟩ u) D rs := by
  have hb : ∀ k, k ≠ B → (w.setCell ⟨B, o, none⟩ u).heap[k]? = w.heap[k]? := fun k hk => Below.heap_setCell w _ _ k hk
  have hsz : (w.setCell ⟨B, o, none⟩ u).heap.size = w.heap.size := by simp [World.setCell]
  have hsz0 : (w0.setCell ⟨B, o, none⟩ u).heap.size = w0.heap.size := by simp [World.setCell]
  have hne : B ∉ RR D rs := fun hm => by have := (h.rsv _ hm).1; omega
  have hoff : B ∉ bks (trs rs) := fun hm => by have := h.src _ hm; omega
  refine ⟨bl_both h.bel hB, fun p hp => ?_, fun q hq => ?_, fun k hk => ⟨by rw [hsz0]; exact (h.rsv k hk).1, by rw [hsz]; exact (h.rsv k hk).2⟩, h.nd, h.rd, h.dd, fun t ht => ?_, h.tn, h.off, fun k hk => by rw [hsz0]; exact h.src k hk⟩
  · obtain ⟨rest, last, hd⟩ := h.dc p hp
    exact ⟨rest, last, hd.kept (hb _ (fun e => hne (e ▸ rr_d hp))) (hb _ (fun e => hne (e ▸ rr_g hp)))⟩
  · exact (hb _ (fun e => hne (e ▸ rr_r hq))).trans (h.rp q hq)
  · obtain ⟨h1, h2⟩ := h.own t ht
    exact ⟨h1.kept t (fun k hk => hb k (by rintro rfl; exact hoff (List.mem_flatMap.2 ⟨t, ht, hk⟩))), h2⟩
def OfPB (w : World) (x : ByteArray) (e : Ending) (w' : World) : Prop := ∃ r : Nat, e = .returned (.tuple #[.agg #[.pointer (some ⟨r, 0, none⟩)], .bool true]) ∧ LnAt w' r x ∧ Below w.heap.size w w' ∧ ∀ (B o : Nat) (u : Value), B < w.heap.size → LnAt (w'.setCell ⟨B, o, none⟩ u) r x
end
end Go.Proofs.YtjcmbnmejkhcjaaGreat
