/- The reference's answers on lines: the line of an offset, places, offsets of columns, indentation. Condition: a text that is not too long. -/
import Derived.Test.YtjjbpaaionpjeaaLinB
import Derived.Test.YtjjbpaaionpjeaaRopJ
import Derived.Test.YtjjbpaaionpjeaaRopM
namespace Go.Proofs.Ytjjbpaaionpjeaa
open Go.ChangeShapes Go.WideShapes Go.ChangeAt Go.RowKit
attribute [local go_sem ↓] Go.wp_at_zero Go.wp_at_succ
set_option maxRecDepth 100000
set_option linter.unusedVariables false
def atV (L : List UInt8) (off : Int) : Int := if mayR 0 off L.length = 0 then nBrk (L.take off.toNat) else 0
theorem atV_in {L : List UInt8} {p : Nat} (h : mayR 0 (p : Int) L.length = 0) : atV L p = nBrk (L.take p) := if_pos h
theorem atV_no {L : List UInt8} {off : Int} (h : mayR 0 off L.length = 3) : atV L off = 0 := if_neg (by rw [h]; decide)
theorem rof3 (l : List UInt8) (s : ByteArray) (w : World) (hs : s.size ≤ 100000000) (hl : s.data.toList = l) :
    Calls Try.prog 39 #[.string s] w fun e w' => e = .returned (.agg #[.int .i64 l.length, .int .i64 (nBrk l), .int .i64 (nRun l), .int .i64 (nBig l + nRun l)]) ∧ Below w.heap.size w w' := by
  subst hl; exact rof_any s w hs
theorem rby3 (l : List UInt8) (way : Int) (w : World) :
    Calls Try.prog 43 #[.agg #[.int .i64 l.length, .int .i64 (nBrk l), .int .i64 (nRun l), .int .i64 (nBig l + nRun l)], .int .i64 way] w fun e w' => e = .returned (.int .i64 (cnt way l)) ∧ Below w.heap.size w w' := rbytal_any l way w
theorem fld_br (a b c d : Int) (w : World) : (Instr.field 65 (.agg #[.int .i64 a, .int .i64 b, .int .i64 c, .int .i64 d]) 1).run Try.prog w = .ok (.int .i64 b) w := by kernel_rfl
attribute [local go_sem] fld_br
theorem rat_any (x : ByteArray) (off : Int) (w : World) (hs : x.size ≤ 100000) :
    Calls Try.prog 20 #[.string x, .int .i64 off] w fun e w' => e = .returned (.tuple #[.int .i64 (atV x.data.toList off), .int .i64 (mayR 0 off x.size)]) ∧ Below w.heap.size w w' := by
  have hxl : x.data.toList.length = x.size := rfl
  rcases mayR_cases 0 off x.size with ⟨hm, h1, h2, h3⟩ | ⟨hm, h1⟩
  · obtain ⟨p, rfl⟩ : ∃ p : Nat, off = p := ⟨off.toNat, by omega⟩
    rw [atV_in (by rw [hxl]; exact hm), hm]
    have hps : p ≤ x.size := by omega
    have HOF := hide (fun W => rof3 (x.data.toList.take p) (x.extract 0 p) W (by simp only [ByteArray.size_extract]; omega) (by rw [ext_take]))
    generalize x.data.toList.take p = l at *
    clear hm hxl h1 h2 h3
    go_enter Try.func20, Try.ntmps20
    go_wp2_with fail
    refine (HOF.out _).mono ?_
    rintro e w1 ⟨rfl, hb⟩
    go_wp2
    go_ret2
    exact ⟨rfl, hb⟩
  · rw [atV_no (by rw [hxl]; exact hm), hm]
    clear hm
    by_cases h0 : off < 0
    · have g0 : decide (off < 0) = true := decide_eq_true h0
      go_enter Try.func20, Try.ntmps20
      go_wp2
      go_ret2
      exact ⟨rfl, bl_refl _⟩
    · have g0 : decide (off < 0) = false := decide_eq_false h0
      have g1 : decide ((x.size : Int) < off) = true := decide_eq_true (by omega)
      go_enter Try.func20, Try.ntmps20
      go_wp2
      go_ret2
      exact ⟨rfl, bl_refl _⟩
theorem rgood_yes (way : Int) (w : World) (h : way = 0 ∨ way = 1 ∨ way = 2) : Calls Try.prog 42 #[.int .i64 way] w fun e w' => e = .returned (.bool true) ∧ w = w' := by
  rcases h with rfl | rfl | rfl
  all_goals
    go_enter Try.func42, Try.ntmps42
    go_wp2
    go_ret
    exact ⟨rfl, rfl⟩
theorem rgood_no (way : Int) (w : World) (h : ¬ (way = 0 ∨ way = 1 ∨ way = 2)) : Calls Try.prog 42 #[.int .i64 way] w fun e w' => e = .returned (.bool false) ∧ w = w' := by
  have g0 : (way == 0) = false := by simp; omega
  have g1 : (way == 1) = false := by simp; omega
  have g2 : (way == 2) = false := by simp; omega
  clear h
  go_enter Try.func42, Try.ntmps42
  go_wp2
  go_ret
  exact ⟨rfl, rfl⟩
def plC (way : Int) : Int := if way = 0 ∨ way = 1 ∨ way = 2 then 0 else 2
theorem plC_cases (way : Int) : (plC way = 0 ∧ (way = 0 ∨ way = 1 ∨ way = 2)) ∨ (plC way = 2 ∧ ¬ (way = 0 ∨ way = 1 ∨ way = 2)) := by
  unfold plC
  by_cases h : way = 0 ∨ way = 1 ∨ way = 2
  · rw [if_pos h]; exact .inl ⟨rfl, h⟩
  · rw [if_neg h]; exact .inr ⟨rfl, h⟩
/-- What Place answers: the line, the column, the code. -/
def PlIs (L : List UInt8) (off way a b e : Int) : Prop :=
  (plC way = 2 → a = 0 ∧ b = 0 ∧ e = 2) ∧ (plC way = 0 → mayR 0 off L.length = 3 → a = 0 ∧ b = 0 ∧ e = 3) ∧
  (plC way = 0 → mayR 0 off L.length = 0 → a = nBrk (L.take off.toNat) ∧ b = cnt way ((L.take off.toNat).drop (lnS L (nBrk (L.take off.toNat)))) ∧ e = 0)
theorem plIs_same {L : List UInt8} {off way a b e a' b' e' : Int} (h : PlIs L off way a b e) (g : PlIs L off way a' b' e') : a = a' ∧ b = b' ∧ e = e' := by
  rcases plC_cases way with ⟨hc, _⟩ | ⟨hc, _⟩
  · rcases mayR_cases 0 off L.length with ⟨hm, _⟩ | ⟨hm, _⟩
    · obtain ⟨rfl, rfl, rfl⟩ := h.2.2 hc hm
      obtain ⟨rfl, rfl, rfl⟩ := g.2.2 hc hm
      exact ⟨rfl, rfl, rfl⟩
    · obtain ⟨rfl, rfl, rfl⟩ := h.2.1 hc hm
      obtain ⟨rfl, rfl, rfl⟩ := g.2.1 hc hm
      exact ⟨rfl, rfl, rfl⟩
  · obtain ⟨rfl, rfl, rfl⟩ := h.1 hc
    obtain ⟨rfl, rfl, rfl⟩ := g.1 hc
    exact ⟨rfl, rfl, rfl⟩
def PlPost (L : List UInt8) (off way : Int) (w : World) (e : Ending) (w' : World) : Prop := ∃ a b c : Int, e = .returned (.tuple #[.int .i64 a, .int .i64 b, .int .i64 c]) ∧ PlIs L off way a b c ∧ Below w.heap.size w w'
theorem plIs_arg {L : List UInt8} {off way : Int} (h : plC way = 2) : PlIs L off way 0 0 2 := ⟨fun _ => ⟨rfl, rfl, rfl⟩, fun h0 => absurd (h.symm.trans h0) (by decide), fun h0 => absurd (h.symm.trans h0) (by decide)⟩
theorem plIs_rng {L : List UInt8} {off way : Int} (h : plC way = 0) (hm : mayR 0 off L.length = 3) : PlIs L off way 0 0 3 := ⟨fun h0 => absurd (h.symm.trans h0) (by decide), fun _ _ => ⟨rfl, rfl, rfl⟩, fun _ h0 => absurd (hm.symm.trans h0) (by decide)⟩
theorem plIs_in {L : List UInt8} {way : Int} {p : Nat} (h : plC way = 0) (hm : mayR 0 (p : Int) L.length = 0) {a b : Int} (ha : a = nBrk (L.take p)) (hb : b = cnt way ((L.take p).drop (lnS L (nBrk (L.take p))))) : PlIs L p way a b 0 :=
  ⟨fun h0 => absurd (h.symm.trans h0) (by decide), fun _ h0 => absurd (hm.symm.trans h0) (by decide), fun _ _ => ⟨ha, hb, rfl⟩⟩
theorem rplace_any (x : ByteArray) (off way : Int) (w : World) (hs : x.size ≤ 100000) :
    Calls Try.prog 24 #[.string x, .int .i64 off, .int .i64 way] w (PlPost x.data.toList off way w) := by
  have hxl : x.data.toList.length = x.size := rfl
  rcases plC_cases way with ⟨hc, hg⟩ | ⟨hc, hg⟩
  · have HG := hide (fun W => rgood_yes way W hg)
    have HAT := hide (fun W => rat_any x off W hs)
    rcases mayR_cases 0 off x.size with ⟨hm, h1, h2, h3⟩ | ⟨hm, h1⟩
    · obtain ⟨p, rfl⟩ : ∃ p : Nat, off = p := ⟨off.toNat, by omega⟩
      have hps : p ≤ x.size := by omega
      have hin := off_in x.data.toList p (by rw [hxl]; omega)
      have hbt := nBrk_take x.data.toList p
      have hbl := nBrk_le (x.data.toList.take p)
      have HPL := hide (@plIs_in x.data.toList way p hc (by rw [hxl]; exact hm) (nBrk (x.data.toList.take p)) _ rfl rfl)
      rw [atV_in (by rw [hxl]; exact hm), hm] at HAT
      have hln : lnC x.data.toList (nBrk (x.data.toList.take p)) = 0 := by unfold lnC; rw [if_pos (by omega)]
      have hst := fun W => rstart_any x (nBrk (x.data.toList.take p)) W hs
      rw [lnSv_in hln, hln] at hst
      have HST := hide hst
      obtain ⟨ln, hlnn⟩ : ∃ ln, nBrk (x.data.toList.take p) = ln := ⟨_, rfl⟩
      rw [hlnn] at HPL HST HAT hin
      obtain ⟨s, hs0⟩ : ∃ s, lnS x.data.toList ln = s := ⟨_, rfl⟩
      rw [hs0] at HPL HST hin
      have hsp : s ≤ p := hin.1
      have HOF := hide (fun W => rof3 ((x.data.toList.take p).drop s) (x.extract s p) W (by simp only [ByteArray.size_extract]; omega) (by rw [ext_mid]))
      have HBY := hide (fun W => rby3 ((x.data.toList.take p).drop s) way W)
      generalize (x.data.toList.take p).drop s = l at *
      generalize cnt way l = cw at *
      clear hst hs0 hlnn hln hin hbt hbl hm h1 h2 h3 hc hg hxl
      go_enter Try.func24, Try.ntmps24
      go_wp2_with fail
      refine (HG.out _).mono ?_
      rintro e w1 ⟨rfl, hw1⟩
      subst hw1
      go_wp2_with fail
      refine (HAT.out _).mono ?_
      rintro e w2 ⟨rfl, hb2⟩
      go_wp2_with fail
      refine (HST.out _).mono ?_
      rintro e w3 ⟨rfl, hb3⟩
      go_wp2_with fail
      refine (HOF.out _).mono ?_
      rintro e w4 ⟨rfl, hb4⟩
      go_wp2_with fail
      refine (HBY.out _).mono ?_
      rintro e w5 ⟨rfl, hb5⟩
      have hb := bl_trans (bl_trans (bl_trans hb2 hb3) hb4) hb5
      go_wp2
      go_ret3
      exact ⟨_, _, _, rfl, HPL.out, hb⟩
    · have HPL := hide (@plIs_rng x.data.toList off way hc (by rw [hxl]; exact hm))
      rw [atV_no (by rw [hxl]; exact hm), hm] at HAT
      clear hm h1 hc hg hxl
      go_enter Try.func24, Try.ntmps24
      go_wp2_with fail
      refine (HG.out _).mono ?_
      rintro e w1 ⟨rfl, hw1⟩
      subst hw1
      go_wp2_with fail
      refine (HAT.out _).mono ?_
      rintro e w2 ⟨rfl, hb2⟩
      go_wp2
      go_ret3
      exact ⟨_, _, _, rfl, HPL.out, hb2⟩
  · have HG := hide (fun W => rgood_no way W hg)
    have HPL := hide (@plIs_arg x.data.toList off way hc)
    clear hc hg hxl
    go_enter Try.func24, Try.ntmps24
    go_wp2_with fail
    refine (HG.out _).mono ?_
    rintro e w1 ⟨rfl, hw1⟩
    subst hw1
    go_wp2
    go_ret3
    exact ⟨_, _, _, rfl, HPL.out, bl_refl _⟩
/-- What Offset answers. -/
def ofE (L : List UInt8) (line col way : Int) : Int := if plC way = 0 then (if lnC L line = 0 ∧ 0 ≤ col then 0 else 3) else 2
def ofA (L : List UInt8) (line col way : Int) : Int := if ofE L line col way = 0 then ((lnS L line + upL way ((L.take (lnE L line)).drop (lnS L line)) col : Nat) : Int) else 0
theorem ofE_cases (L : List UInt8) (line col way : Int) : (ofE L line col way = 0 ∧ plC way = 0 ∧ lnC L line = 0 ∧ 0 ≤ col) ∨ (ofE L line col way = 3 ∧ ofA L line col way = 0 ∧ plC way = 0 ∧ (lnC L line = 3 ∨ (lnC L line = 0 ∧ col < 0))) ∨ (ofE L line col way = 2 ∧ ofA L line col way = 0 ∧ plC way = 2) := by
  have hA : ofE L line col way ≠ 0 → ofA L line col way = 0 := fun h => if_neg h
  rcases plC_cases way with ⟨hc, _⟩ | ⟨hc, _⟩
  · by_cases h : lnC L line = 0 ∧ 0 ≤ col
    · left
      refine ⟨?_, hc, h⟩
      unfold ofE; rw [if_pos hc, if_pos h]
    · right; left
      have h3 : ofE L line col way = 3 := by unfold ofE; rw [if_pos hc, if_neg h]
      refine ⟨h3, hA (by rw [h3]; decide), hc, ?_⟩
      rcases lnC_cases L line with ⟨h4, _⟩ | ⟨h4, _⟩
      · exact .inr ⟨h4, by omega⟩
      · exact .inl h4
  · right; right
    have h2 : ofE L line col way = 2 := by unfold ofE; rw [if_neg (by rw [hc]; decide)]
    exact ⟨h2, hA (by rw [h2]; decide), hc⟩
theorem rupto3 (l : List UInt8) (s : ByteArray) (way n : Int) (w : World) (hs : s.size ≤ 100000000) (hn : n ≤ 9223372036854775807) (h0 : 0 ≤ n) (hw : 0 ≤ way ∧ way ≤ 3) (hl : s.data.toList = l) :
    Calls Try.prog 44 #[.string s, .int .i64 way, .int .i64 n] w fun e w' => e = .returned (.int .i64 (upL way l n : Nat)) ∧ Below w.heap.size w w' := by
  subst hl
  have := rupto_any s way n w hs hn
  rw [show upto way n s.data.toList = (upL way s.data.toList n : Nat) from by unfold upto; rw [if_neg (by omega)]] at this
  exact this
theorem plC_way {way : Int} (h : plC way = 0) : way = 0 ∨ way = 1 ∨ way = 2 := by
  rcases plC_cases way with ⟨_, h2⟩ | ⟨h2, _⟩
  · exact h2
  · rw [h2] at h; exact absurd h (by decide)
theorem plC_no {way : Int} (h : plC way = 2) : ¬ (way = 0 ∨ way = 1 ∨ way = 2) := by
  rcases plC_cases way with ⟨h2, _⟩ | ⟨_, h2⟩
  · rw [h2] at h; exact absurd h (by decide)
  · exact h2
theorem lnC_in {L : List UInt8} {i : Int} (h : lnC L i = 0) : 0 ≤ i ∧ i ≤ nBrk L := by
  rcases lnC_cases L i with ⟨_, h2⟩ | ⟨h2, _⟩
  · exact h2
  · rw [h2] at h; exact absurd h (by decide)
theorem roffset_any (x : ByteArray) (line col way : Int) (w : World) (hs : x.size ≤ 100000) (hcol : col ≤ 9223372036854775807) :
    Calls Try.prog 26 #[.string x, .int .i64 line, .int .i64 col, .int .i64 way] w fun e w' => e = .returned (.tuple #[.int .i64 (ofA x.data.toList line col way), .int .i64 (ofE x.data.toList line col way)]) ∧ Below w.heap.size w w' := by
  have hxl : x.data.toList.length = x.size := rfl
  have hst := fun W => rstart_any x line W hs
  rcases ofE_cases x.data.toList line col way with ⟨he, hc, hl, h0⟩ | ⟨he, ha, hc, hl⟩ | ⟨he, ha, hc⟩
  · have ha : ofA x.data.toList line col way = ((lnS x.data.toList line + upL way ((x.data.toList.take (lnE x.data.toList line)).drop (lnS x.data.toList line)) col : Nat) : Int) := if_pos he
    rw [ha, he]
    have HG := hide (fun W => rgood_yes way W (plC_way hc))
    have hway := plC_way hc
    obtain ⟨hl0, hl1⟩ := lnC_in hl
    have hse := lnS_le x.data.toList line hl0 hl1
    have hel := lnE_le x.data.toList line
    have hen := fun W => rend_any x line W hs
    rw [lnSv_in hl, hl] at hst
    rw [lnEv_in hl, hl] at hen
    obtain ⟨s, hs0⟩ : ∃ s, lnS x.data.toList line = s := ⟨_, rfl⟩
    obtain ⟨t, ht0⟩ : ∃ t, lnE x.data.toList line = t := ⟨_, rfl⟩
    rw [hs0] at hst hse
    rw [ht0] at hen hse hel
    rw [hs0, ht0]
    have HST := hide hst
    have HEN := hide hen
    have HUP := hide (fun W => rupto3 ((x.data.toList.take t).drop s) (x.extract s t) way col W (by simp only [ByteArray.size_extract]; omega) hcol h0 (by omega) (by rw [ext_mid]))
    have hul := upL_le way ((x.data.toList.take t).drop s) col
    rw [List.length_drop, List.length_take] at hul
    obtain ⟨u, hu⟩ : ∃ u, upL way ((x.data.toList.take t).drop s) col = u := ⟨_, rfl⟩
    rw [hu] at HUP hul ⊢
    have hts : t ≤ x.size := by omega
    have hwu : IntKind.i64.wrap ((s : Int) + (u : Int)) = ((s + u : Nat) : Int) := by rw [IntWalk.i64_in _ (by omega)]; omega
    have g0 : decide (col < 0) = false := decide_eq_false (by omega)
    clear hst hen hs0 ht0 hu ha he hl hl0 hl1 hel hc hway hul hxl
    go_enter Try.func26, Try.ntmps26
    go_wp2_with fail
    refine (HG.out _).mono ?_
    rintro e w1 ⟨rfl, hw1⟩
    subst hw1
    go_wp2_with fail
    refine (HST.out _).mono ?_
    rintro e w2 ⟨rfl, hb2⟩
    go_wp2_with fail
    refine (HEN.out _).mono ?_
    rintro e w3 ⟨rfl, hb3⟩
    go_wp2_with fail
    refine (HUP.out _).mono ?_
    rintro e w4 ⟨rfl, hb4⟩
    have hb := bl_trans (bl_trans hb2 hb3) hb4
    go_wp2
    go_ret2
    exact ⟨rfl, hb⟩
  · rw [ha, he]
    have HG := hide (fun W => rgood_yes way W (plC_way hc))
    have HST := hide hst
    clear hst ha he hc hxl
    rcases hl with hl | ⟨hl, h0⟩
    · rw [lnSv_no hl, hl] at HST
      go_enter Try.func26, Try.ntmps26
      go_wp2_with fail
      refine (HG.out _).mono ?_
      rintro e w1 ⟨rfl, hw1⟩
      subst hw1
      go_wp2_with fail
      refine (HST.out _).mono ?_
      rintro e w2 ⟨rfl, hb2⟩
      go_wp2
      go_ret2
      exact ⟨rfl, hb2⟩
    · rw [lnSv_in hl, hl] at HST
      have g0 : decide (col < 0) = true := decide_eq_true h0
      go_enter Try.func26, Try.ntmps26
      go_wp2_with fail
      refine (HG.out _).mono ?_
      rintro e w1 ⟨rfl, hw1⟩
      subst hw1
      go_wp2_with fail
      refine (HST.out _).mono ?_
      rintro e w2 ⟨rfl, hb2⟩
      go_wp2
      go_ret2
      exact ⟨rfl, hb2⟩
  · rw [ha, he]
    have HG := hide (fun W => rgood_no way W (plC_no hc))
    clear hst ha he hc hxl
    go_enter Try.func26, Try.ntmps26
    go_wp2_with fail
    refine (HG.out _).mono ?_
    rintro e w1 ⟨rfl, hw1⟩
    subst hw1
    go_wp2
    go_ret2
    exact ⟨rfl, bl_refl _⟩
/-- What Indent answers. -/
def inS (x : ByteArray) (line : Int) : ByteArray := if lnC x.data.toList line = 0 then x.extract (lnS x.data.toList line) (lnS x.data.toList line + sp (x.data.toList.drop (lnS x.data.toList line))) else ⟨#[]⟩
theorem sp_go (x : ByteArray) (k : Nat) (h : k < x.size) (hc : x[k].toNat = 32 ∨ x[k].toNat = 9) : sp (x.data.toList.drop k) = 1 + sp (x.data.toList.drop (k + 1)) := by
  rw [drop_cons x k h, sp, if_pos hc]
theorem sp_stop (x : ByteArray) (k : Nat) (h : k < x.size) (hc : ¬ (x[k].toNat = 32 ∨ x[k].toNat = 9)) : sp (x.data.toList.drop k) = 0 := by
  rw [drop_cons x k h, sp, if_neg hc]
theorem sp_end (x : ByteArray) : sp (x.data.toList.drop x.size) = 0 := by
  rw [List.drop_of_length_le (by simp)]; rfl
set_option maxHeartbeats 4000000 in
theorem rindent_any (x : ByteArray) (line : Int) (w : World) (hs : x.size ≤ 100000) :
    Calls Try.prog 18 #[.string x, .int .i64 line] w fun e w' => e = .returned (.tuple #[.string (inS x line), .int .i64 (lnC x.data.toList line)]) ∧ Below w.heap.size w w' := by
  have hxl : x.data.toList.length = x.size := rfl
  have hst := fun W => rstart_any x line W hs
  rcases lnC_cases x.data.toList line with ⟨hl, hl0, hl1⟩ | ⟨hl, _⟩
  · rw [lnSv_in hl, hl] at hst
    have hle := lnS_len x.data.toList line hl0 hl1
    rw [show inS x line = x.extract (lnS x.data.toList line) (lnS x.data.toList line + sp (x.data.toList.drop (lnS x.data.toList line))) from if_pos hl, hl]
    obtain ⟨s, hs0⟩ : ∃ s, lnS x.data.toList line = s := ⟨_, rfl⟩
    rw [hs0] at hst hle ⊢
    have HST := hide hst
    obtain ⟨u, hu⟩ : ∃ u, s + sp (x.data.toList.drop s) = u := ⟨_, rfl⟩
    rw [hu]
    have HU := hide hu
    clear hst hs0 hl hl0 hl1 hu
    go_enter Try.func18, Try.ntmps18
    go_wp2_with fail
    refine (HST.out _).mono ?_
    rintro e w1 ⟨rfl, hb1⟩
    go_wp2
    go_loopw [8] (fun v wr => ∃ k : Nat, v = .int .i64 k ∧ s ≤ k ∧ k ≤ x.size ∧ Hid (u = k + sp (x.data.toList.drop k)) ∧ w1 = wr) (fun v _ => x.size - (intOf v).toNat)
    case atStart => exact ⟨s, rfl, Nat.le_refl _, by omega, hide HU.out.symm, rfl⟩
    case round =>
      obtain ⟨k, rfl, hsk, hk, HP, rfl⟩ := hrel
      by_cases hlt : k < x.size
      · have hc : (x[k].toNat : Int) < 256 := by have := x[k].toNat_lt; omega
        by_cases h32 : x[k].toNat = 32
        · have g32 : ((x[k].toNat : Int) == 32) = true := by simp; omega
          have HP2 := hide (show u = (k + 1 : Nat) + sp (x.data.toList.drop (k + 1)) by have := HP.out; rw [sp_go x k hlt (.inl h32)] at this; omega)
          clear h32 HP
          go_wp2
          refine ⟨?_, by first | (simp [intOf]; done) | (simp [intOf]; omega)⟩
          exact ⟨k + 1, by go_num, by omega, by omega, HP2, by first | rfl | trivial⟩
        · have g32 : ((x[k].toNat : Int) == 32) = false := by simp; omega
          by_cases h9 : x[k].toNat = 9
          · have g9 : ((x[k].toNat : Int) == 9) = true := by simp; omega
            have HP2 := hide (show u = (k + 1 : Nat) + sp (x.data.toList.drop (k + 1)) by have := HP.out; rw [sp_go x k hlt (.inr h9)] at this; omega)
            clear h32 h9 HP
            go_wp2
            refine ⟨?_, by first | (simp [intOf]; done) | (simp [intOf]; omega)⟩
            exact ⟨k + 1, by go_num, by omega, by omega, HP2, by first | rfl | trivial⟩
          · have g9 : ((x[k].toNat : Int) == 9) = false := by simp; omega
            have huk : u = k := by have := HP.out; rw [sp_stop x k hlt (by omega)] at this; omega
            subst huk
            clear h32 h9 HP HU
            go_wp2
            go_ret2
            exact ⟨rfl, hb1⟩
      · obtain rfl : k = x.size := by omega
        have huk : u = x.size := by have := HP.out; rw [sp_end] at this; omega
        subst huk
        clear HP HU
        go_wp2
        go_ret2
        exact ⟨rfl, hb1⟩
  · rw [lnSv_no hl, hl] at hst
    rw [show inS x line = ⟨#[]⟩ from if_neg (by rw [hl]; decide), hl]
    have HST := hide hst
    clear hst hl
    go_enter Try.func18, Try.ntmps18
    go_wp2_with fail
    refine (HST.out _).mono ?_
    rintro e w1 ⟨rfl, hb1⟩
    go_wp2
    go_ret2
    exact ⟨rfl, hb1⟩
end Go.Proofs.Ytjjbpaaionpjeaa
