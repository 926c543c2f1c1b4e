/- Contracts: vars.Place where there is no rope, where a selection is out of the text, and in a text (what its line is). Condition: a text that is not too long. What the library's table of powers gives: every number is told (strconv.Itoa). Condition: the table as the program's text lays it. Words at a place of a text, by its line (plain mathematics). -/
import Derived.Test.YtmjadcjpgcbalaaDoorVrEnd
import Derived.Test.YtmjadcjpgcbalaaDoorRows
import Derived.Lib.LaidTab
import Derived.Lib.AppendIntMem
import Derived.MakeChecks
import Derived.LaidHandle
namespace Go.Proofs.YtmjadcjpgcbalaaDoor
section
open Go.ChangeShapes Go.WideShapes Go.ChangeAt Go.RowKit
open SpanM SetM
attribute [local go_sem ↓] Go.wp_at_zero Go.wp_at_succ
attribute [local go_sem] later_cell later_frozen
set_option maxRecDepth 100000
set_option linter.unusedVariables false
theorem brk_len (L : List UInt8) (k : Nat) : nBrk (L.take k) ≤ k := by
  induction k with
  | zero => simp [nBrk]
  | succ k ih => have := nBrk_succ L k; omega
theorem brk_nn (L : List UInt8) (k : Nat) : 0 ≤ nBrk (L.take k) := by simp [nBrk]
/-- The line of a place. -/
theorem ln_of (x : ByteArray) (H : Nat) (hH : H ≤ x.size) : ∃ idx S E d : Nat, atV x.data.toList H = idx ∧ lnSv x.data.toList idx = S ∧ lnEv x.data.toList idx = E ∧ S + d = H ∧ H ≤ E ∧ E ≤ x.size ∧ idx ≤ H ∧ lnC x.data.toList idx = 0 := by
  have h0 := brk_nn x.data.toList H
  have h1 := brk_len x.data.toList H
  have h2 := nBrk_take x.data.toList H
  obtain ⟨h3, h4⟩ := off_in x.data.toList H (by exact hH)
  have hm : mayR 0 (H : Int) x.data.toList.length = 0 := by
    have : x.data.toList.length = x.size := rfl
    unfold mayR; rw [if_neg (by omega)]
  obtain ⟨idx, hi⟩ : ∃ idx : Nat, nBrk (x.data.toList.take H) = (idx : Int) := ⟨(nBrk (x.data.toList.take H)).toNat, by omega⟩
  have hc : lnC x.data.toList idx = 0 := by unfold lnC; rw [if_pos (by omega)]
  rw [hi] at h3 h4
  refine ⟨idx, lnS x.data.toList idx, lnE x.data.toList idx, H - lnS x.data.toList idx, ?_, lnSv_in hc, lnEv_in hc, by omega, h4, ?_, by omega, hc⟩
  · rw [atV_in hm, hi]
  · exact lnE_le x.data.toList idx
set_option maxHeartbeats 2000000 in
theorem place_nil (x1 x2 : Int) (v0 : Value) (env : List Rw) (w : World) (he : RwAt w v0 env) : Calls Tryd.prog 22 #[.agg #[.pointer none], .agg #[.int .i64 x1, .int .i64 x2], v0] w fun e w' => e = .returned (.tuple #[.slice none 0 0, .int .i64 1]) ∧ Below w.heap.size w w' := by
  obtain ⟨vA, vc, rfl⟩ := rwat_len he
  clear he
  go_enter Tryd.func22, Tryd.ntmps22
  go_wp2
  go_ret2
  exact ⟨rfl, bl_alloc (bl_alloc (bl_refl w) _) _⟩
set_option maxHeartbeats 4000000 in
theorem place_no {w : World} {r : Nat} {x : ByteArray} (h : LnAt w r x) (x1 x2 : Int) (ho : x1 < 0 ∨ x2 < 0 ∨ (x.size : Int) < x1 ∨ (x.size : Int) < x2) (v0 : Value) (env : List Rw) (he : RwAt w v0 env) : Calls Tryd.prog 22 #[.agg #[.pointer (some ⟨r, 0, none⟩)], .agg #[.int .i64 x1, .int .i64 x2], v0] w fun e w' => e = .returned (.tuple #[.slice none 0 0, .int .i64 3]) ∧ Below w.heap.size w w' := by
  obtain ⟨vA, vc, rfl⟩ := rwat_len he
  obtain ⟨p, hp⟩ : ∃ p, min x1 x2 = p := ⟨_, rfl⟩
  obtain ⟨q, hq⟩ : ∃ q, max x1 x2 = q := ⟨_, rfl⟩
  have HSP := hide (fun W => spanV x1 x2 p q hp hq W)
  have hm0 : mayB (p, q) x.size = false := decide_eq_false (by dsimp only; omega)
  have HMAY := hide (fun W => (show Calls Tryd.prog 38 #[.agg #[.int .i64 p, .int .i64 q], .int .i64 x.size] W fun e w' => e = .returned (.bool false) ∧ Below W.heap.size W w' from by
    have := may_any (p, q) x.size W
    rwa [hm0] at this))
  have HLEN := hide (fun W (hb : Below w.heap.size w W) => ln_len (h.bl hb))
  clear he hp hq hm0 ho
  go_enter Tryd.func22, Tryd.ntmps22
  go_wp2_with fail
  (with_reducible refine (HSP.out _).mono ?_)
  rintro e w1 ⟨rfl, hb1⟩
  have hb00 := bl_alloc (bl_alloc (bl_refl w) (.cells #[.pointer (some ⟨r, 0, none⟩)] 42)) (.cells #[.int .i64 x1, .int .i64 x2] 39)
  have c3 : ((w.alloc (.cells #[.pointer (some ⟨r, 0, none⟩)] 42)).alloc (.cells #[.int .i64 x1, .int .i64 x2] 39)).cell? ⟨w.heap.size, 0, none⟩ = some (.pointer (some ⟨r, 0, none⟩)) := by go_simp
  replace c3 := cell_later hb1 c3
  have hb01 := bl_trans hb00 hb1
  have hb02 := bl_trans hb01 (bl_alloc (bl_refl w1) (.cells #[.int .i64 p, .int .i64 q] 71))
  have hb11 := bl_alloc (bl_refl w1) (.cells #[.int .i64 p, .int .i64 q] 71)
  have c81 : (w1.alloc (.cells #[.int .i64 p, .int .i64 q] 71)).cell? ⟨w1.heap.size, 0, none⟩ = some (.int .i64 p) := by go_simp
  have c82 : (w1.alloc (.cells #[.int .i64 p, .int .i64 q] 71)).cell? ⟨w1.heap.size, 1, none⟩ = some (.int .i64 q) := by go_simp
  replace c3 := cell_later hb11 c3
  have HB02 := hide hb02
  clear hb00 hb01 hb02 hb1 hb11
  go_wp2
  generalize (w1.alloc (.cells #[.int .i64 p, .int .i64 q] 71)) = w2 at *
  have n1 := World.block_lt_of_cell? _ _ c3
  have n2 := World.block_lt_of_cell? _ _ c81
  refine wp_region_later (by kernel_rfl) (by kernel_rfl) ?_
  repeat (go_big_quiet_step (first
    | (go_at_call 39; exact later_call_same (HLEN.out _ (bl_trans HB02.out (Later.below _))))
    | (go_at_call 38; exact later_call (HMAY.out _))
    | exact rfl))
  refine wpQuiet_nil ?_
  rintro w9 ⟨⟨_, hb9⟩, rfl⟩
  have HB9 := hide (bl_trans HB02.out hb9)
  clear hb9 c3 c81 c82 n1 n2
  go_wp2
  go_ret2
  exact ⟨rfl, HB9.out⟩
end
section
open Go.ChangeShapes Go.WideShapes Go.ChangeAt Go.RowKit
open SpanM SetM
set_option maxRecDepth 100000
theorem pow_data : (Rows.laid_internal_strconv_uint64pow10 : DataW Unit) = Go.Lib.tabData .u64 Go.Lib.pow10Tab := by kernel_rfl
theorem pow_tab {W : World} (h : laidMetH Tryd.prog [("math/bits.deBruijn32tab", Rows.laid_math_bits_deBruijn32tab), ("math/bits.deBruijn64tab", Rows.laid_math_bits_deBruijn64tab), ("internal/strconv.uint64pow10", Rows.laid_internal_strconv_uint64pow10)] W) : Go.Lib.TabIs Tryd.prog W "internal/strconv.uint64pow10" .u64 Go.Lib.pow10Tab := by
  rw [MakeChecks.laidMetH_plain _ _ _ (by kernel_rfl), pow_data] at h
  obtain ⟨ps, ⟨g0, t0, cs0, f0, p0, q0, hg0, ht0, hv0, hd0, ⟨g1, t1, cs1, f1, p1, q1, hg1, ht1, hv1, hd1, ⟨g2, t2, cs2, f2, p2, q2, hg2, ht2, hv2, hd2, _, _⟩, _⟩, _⟩, _⟩ := h
  have hg : Tryd.prog.globalNamed "internal/strconv.uint64pow10" = some 1 := by kernel_rfl
  have hty : (Tryd.prog.globals[1]?).map (·.type) = some 139 := by kernel_rfl
  obtain rfl := Option.some.inj (hg.symm.trans hg2)
  obtain rfl := Option.some.inj (hty.symm.trans ht2)
  unfold Go.Lib.TabIs
  rw [hv2, ← Go.Lib.cells_of_tab Tryd.underlying139 Tryd.underlying132 (by kernel_rfl) (by kernel_rfl) hd2]
theorem tab_bl {w w' : World} {name : String} {k : IntKind} {zs : List Int} (h : Go.Lib.TabIs Tryd.prog w name k zs) (hb : Below w.heap.size w w') : Go.Lib.TabIs Tryd.prog w' name k zs := by
  unfold Go.Lib.TabIs World.var? at *
  cases hg : Tryd.prog.globalNamed name with
  | none => simp [hg] at h
  | some g =>
    simp only [hg] at h
    simp only [Option.bind_some] at h ⊢
    cases hh : w.heap[g]? with
    | none => rw [hh] at h; exact absurd h (by simp)
    | some o =>
      rw [hb.block g (Array.getElem?_eq_some_iff.1 hh).1, hh]
      rw [hh] at h
      exact h
theorem it_tab {w : World} (hT : Go.Lib.TabIs Tryd.prog w "internal/strconv.uint64pow10" .u64 Go.Lib.pow10Tab) (i : Nat) (h : i < 1000000) : ItOK w i := fun W hb => by
  refine (Any.strconv_Itoa itoaM (i : Int) (by omega) (by omega) W (tab_bl hT hb)).mono ?_
  rintro e w' ⟨rfl, k, os, rfl⟩
  refine ⟨?_, Go.Lib.below_grow _ _ (Nat.le_refl _) k os⟩
  unfold itoaS Go.Lib.itoa
  rw [if_neg (by omega), Int.toNat_natCast]
end
section
open Go.ChangeShapes Go.WideShapes Go.ChangeAt Go.RowKit
open SpanM SetM
set_option maxRecDepth 100000
set_option linter.unusedVariables false
theorem dnW_uniq (p : Nat → Bool) (k a : Nat) (h1 : a ≤ k) (h2 : ∀ j, a ≤ j → j < k → p j = true) (h3 : ∀ j, j + 1 = a → p j = false) : dnW p k = a := by
  obtain ⟨g1, g2, g3⟩ := dnW_at p k
  rcases Nat.lt_trichotomy (dnW p k) a with h | h | h
  · have e1 := g2 (a - 1) (by omega) (by omega)
    have e2 := h3 (a - 1) (by omega)
    rw [e1] at e2; cases e2
  · exact h
  · have e1 := h2 (dnW p k - 1) (by omega) (by omega)
    have e2 := g3 (dnW p k - 1) (by omega)
    rw [e1] at e2; cases e2
theorem wd_brk (L : List UInt8) (k : Nat) (c : UInt8) (r : List UInt8) (h : L.drop k = c :: r) (hc : c.toNat = 10) : wdP L k = false := by
  have hk : L[k]? = some c := by
    have := congrArg (·[0]?) h
    simpa using this
  unfold wdP
  rw [hk]
  show wordC c = false
  unfold wordC
  exact decide_eq_false (by omega)
/-- A line's ends are no word bytes. -/
theorem ln_ends (x : ByteArray) (idx S E H : Nat) (h2 : lnSv x.data.toList idx = S) (h3 : lnEv x.data.toList idx = E) (hc : lnC x.data.toList idx = 0) (hSH : S ≤ H) (hH : H ≤ x.size) :
    (S = 0 ∨ wdP x.data.toList (S - 1) = false) ∧ (E = x.size ∨ wdP x.data.toList E = false) := by
  rw [lnSv_in hc] at h2
  rw [lnEv_in hc] at h3
  have hxl : x.data.toList.length = x.size := rfl
  have eS : lnS x.data.toList idx = S := by omega
  have eE : lnE x.data.toList idx = E := by omega
  constructor
  · rcases Nat.eq_zero_or_pos idx with h0 | h0
    · left
      rw [← eS]; unfold lnS; rw [if_pos (by omega)]
    · right
      obtain ⟨m, hm⟩ : ∃ m : Nat, m + 1 = idx := ⟨idx - 1, by omega⟩
      have hn := lnS_next x.data.toList (m : Int) (by omega)
      rw [show (m : Int) + 1 = (idx : Int) by omega, eS] at hn
      rcases lnE_next x.data.toList (m : Int) (by omega) with h | ⟨c, r, h, hc10⟩
      · omega
      · rw [show S - 1 = lnE x.data.toList (m : Int) by omega]
        exact wd_brk _ _ c r h hc10
  · rcases lnE_next x.data.toList (idx : Int) (by omega) with h | ⟨c, r, h, hc10⟩
    · left; omega
    · right
      rw [← eE]
      exact wd_brk _ _ c r h hc10
theorem wd_line (x : ByteArray) (S E j : Nat) (hE : E ≤ x.size) (hj : S + j < E) : wdP (x.extract S E).data.toList j = wdP x.data.toList (S + j) := by
  have hxl : x.data.toList.length = x.size := rfl
  have hl : (x.extract S E).data.toList = (x.data.toList.take E).drop S := by
    rw [ByteArray.data_extract]
    simp only [Array.toList_extract, List.extract_eq_take_drop]
    rw [List.drop_take]
  unfold wdP
  rw [hl, List.getElem?_drop, List.getElem?_take_of_lt (by omega)]
/-- The word at a place of a line is the word at that place of the text. -/
theorem word_line (x : ByteArray) (S E d H : Nat) (hd : S + d = H) (hHE : H ≤ E) (hE : E ≤ x.size) (e1 : S = 0 ∨ wdP x.data.toList (S - 1) = false) (e2 : E = x.size ∨ wdP x.data.toList E = false) :
    wrdF (x.extract S E) d = x.extract (dnW (wdP x.data.toList) H) (upW (wdP x.data.toList) x.size H) ∧ S ≤ dnW (wdP x.data.toList) H ∧ upW (wdP x.data.toList) x.size H ≤ E := by
  obtain ⟨a1, a2, a3⟩ := dnW_at (wdP x.data.toList) H
  obtain ⟨b1, b2, b3, b4⟩ := upW_at (wdP x.data.toList) x.size H
  have b2 := b2 (by omega)
  have hS : S ≤ dnW (wdP x.data.toList) H := by
    rcases e1 with e1 | e1
    · omega
    · rcases Nat.lt_or_ge (dnW (wdP x.data.toList) H) S with h | h
      · have := a2 (S - 1) (by omega) (by omega)
        rw [e1] at this; cases this
      · exact h
  have hB : upW (wdP x.data.toList) x.size H ≤ E := by
    rcases e2 with e2 | e2
    · omega
    · rcases Nat.lt_or_ge E (upW (wdP x.data.toList) x.size H) with h | h
      · have := b3 E (by omega) h
        rw [e2] at this; cases this
      · exact h
  refine ⟨?_, hS, hB⟩
  have hsz : (x.extract S E).size = E - S := by rw [ByteArray.size_extract]; omega
  have eA : dnW (wdP (x.extract S E).data.toList) d = dnW (wdP x.data.toList) H - S := by
    refine dnW_uniq _ _ _ (by omega) (fun j hj1 hj2 => ?_) (fun j hj => ?_)
    · rw [wd_line x S E j hE (by omega)]
      exact a2 (S + j) (by omega) (by omega)
    · rw [wd_line x S E j hE (by omega)]
      exact a3 (S + j) (by omega)
  have eB : upW (wdP (x.extract S E).data.toList) (E - S) d = upW (wdP x.data.toList) x.size H - S := by
    refine upW_uniq _ _ _ _ (by omega) (fun j hj1 hj2 => ?_) (fun hj => ?_) (by omega)
    · rw [wd_line x S E j hE (by omega)]
      exact b3 (S + j) (by omega) (by omega)
    · rw [wd_line x S E _ hE (by omega), show S + (upW (wdP x.data.toList) x.size H - S) = upW (wdP x.data.toList) x.size H by omega]
      rcases Nat.lt_or_ge (upW (wdP x.data.toList) x.size H) x.size with h | h
      · exact b4 h
      · omega
  unfold wrdF
  rw [hsz, eA, eB]
  apply ByteArray.ext
  rw [ByteArray.data_extract, ByteArray.data_extract, ByteArray.data_extract, Array.extract_extract]
  congr 1 <;> omega
def nWd : ByteArray := ⟨#[84, 77, 95, 67, 85, 82, 82, 69, 78, 84, 95, 87, 79, 82, 68]⟩
theorem pl_word (x : ByteArray) (p q : Nat) (line wd : ByteArray) (idx : Nat) : getB nWd (plAll x p q line wd idx false ⟨#[]⟩ ++ []) = !wd.toList.isEmpty ∧ getV nWd (plAll x p q line wd idx false ⟨#[]⟩ ++ []) = if wd.toList.isEmpty then ⟨#[]⟩ else wd := by
  unfold plAll plSel plWord plPath
  generalize itoaS idx = i0
  generalize itoaS (idx + 1) = i1
  generalize x.extract p q = y
  cases hw : wd.toList.isEmpty
  · by_cases hp : p < q
    · rw [if_pos hp]; constructor <;> kernel_rfl
    · rw [if_neg hp]; constructor <;> kernel_rfl
  · by_cases hp : p < q
    · rw [if_pos hp]; constructor <;> kernel_rfl
    · rw [if_neg hp]; constructor <;> kernel_rfl
end
end Go.Proofs.YtmjadcjpgcbalaaDoor
