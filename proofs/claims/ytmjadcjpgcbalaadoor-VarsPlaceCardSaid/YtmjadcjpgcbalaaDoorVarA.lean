/- Contracts: a file's path cut, a name's base, the word at a place, what a place's list takes in; a selection's stretch. Condition: texts that are not too long. -/
import Derived.Test.YtmjadcjpgcbalaaDoorSpanB
import Derived.Test.YtmjadcjpgcbalaaDoorPrEnd
import Derived.Test.YtmjadcjpgcbalaaDoorMotW
import Derived.Test.YtmjadcjpgcbalaaDoorApp
import Derived.Test.YtmjadcjpgcbalaaDoorLay
import Derived.Test.YtmjadcjpgcbalaaDoorLater
import Derived.Laws.ResultCell
import Derived.BigQuiet
namespace Go.Proofs.YtmjadcjpgcbalaaDoor
open Go.ChangeShapes Go.WideShapes Go.ChangeAt Go.RowKit
open SpanM SetM
attribute [local go_sem ↓] Go.wp_at_zero Go.wp_at_succ
set_option maxRecDepth 100000
set_option linter.unusedVariables false
/-- The last place of a byte, or -1. -/
def lstB (x : ByteArray) (c : Int) : Int := Go.Lib.lastIndexByte x c
theorem lst_any (x : ByteArray) (c : Int) (k : Int) (hk : lstB x c = k) (hx : x.size ≤ 1000000) (w : World) : Calls Tryd.prog 71 #[.string x, .int .u8 c] w fun e w' => e = .returned (.int .i64 k) ∧ w = w' := by
  subst hk
  refine (Any.strings_LastIndexByte lastB x c (by omega) w).mono ?_
  rintro e w' ⟨rfl, rfl⟩
  exact ⟨rfl, rfl⟩
theorem lst_bd (x : ByteArray) (c : Int) : lstB x c = -1 ∨ ∃ i : Nat, i < x.size ∧ lstB x c = i := by
  rcases Go.Lib.lastIndexByte_spec x c with ⟨h, _⟩ | ⟨i, h1, h2, _⟩
  · exact .inl h
  · exact .inr ⟨i, h1, h2⟩
/-- A path's directory and file. -/
def cutD (x : ByteArray) : ByteArray := if lstB x 47 < 0 then ⟨#[]⟩ else x.extract 0 (lstB x 47).toNat
def cutF (x : ByteArray) : ByteArray := if lstB x 47 < 0 then x else x.extract ((lstB x 47).toNat + 1) x.size
def basF (x : ByteArray) : ByteArray := if 0 < lstB x 46 then x.extract 0 (lstB x 46).toNat else x
theorem cut_any (x : ByteArray) (hx : x.size ≤ 1000000) (d f : ByteArray) (hd : cutD x = d) (hf : cutF x = f) (w : World) : Calls Tryd.prog 45 #[.string x] w fun e w' => e = .returned (.tuple #[.string d, .string f]) ∧ Below w.heap.size w w' := by
  have HL := hide (fun (k : Int) (hk : lstB x 47 = k) W => lst_any x 47 k hk hx W)
  rcases lst_bd x 47 with h | ⟨i, hi, h⟩
  · have HK := hide (HL.out _ h)
    unfold cutD at hd
    unfold cutF at hf
    rw [h, if_pos (by omega)] at hd hf
    subst hd hf
    clear HL h
    go_enter Tryd.func45, Tryd.ntmps45
    go_wp2_with fail
    refine (HK.out _).mono ?_
    rintro e w1 ⟨rfl, hw1⟩
    subst hw1
    go_wp2
    go_ret2
    exact ⟨rfl, bl_refl _⟩
  · have HK := hide (HL.out _ h)
    unfold cutD at hd
    unfold cutF at hf
    rw [h, if_neg (by omega)] at hd hf
    rw [Int.toNat_natCast] at hd hf
    have HD := hide hd
    have HF := hide hf
    have gk : decide ((i : Int) < 0) = false := decide_eq_false (by omega)
    have q1 : IntKind.i64.wrap ((i : Int) + 1) = (i : Int) + 1 := by rw [IntKind.wrap_i64]; omega
    have hi2 : i ≤ x.size := by omega
    have hi3 : i + 1 ≤ x.size := by omega
    clear HL h hd hf
    go_enter Tryd.func45, Tryd.ntmps45
    go_wp2_with fail
    refine (HK.out _).mono ?_
    rintro e w1 ⟨rfl, hw1⟩
    subst hw1
    go_wp2
    go_quiet (fail)
    go_wp2
    go_ret2
    exact ⟨by rw [← HD.out, ← HF.out]; rfl, bl_drewN (bl_refl _) _⟩
theorem base_any (x : ByteArray) (hx : x.size ≤ 1000000) (d : ByteArray) (hd : basF x = d) (w : World) : Calls Tryd.prog 46 #[.string x] w fun e w' => e = .returned (.string d) ∧ w = w' := by
  have HL := hide (fun (k : Int) (hk : lstB x 46 = k) W => lst_any x 46 k hk hx W)
  rcases lst_bd x 46 with h | ⟨i, hi, h⟩
  · have HK := hide (HL.out _ h)
    unfold basF at hd
    rw [h, if_neg (by omega)] at hd
    subst hd
    clear HL h
    go_enter Tryd.func46, Tryd.ntmps46
    go_wp2_with fail
    refine (HK.out _).mono ?_
    rintro e w1 ⟨rfl, hw1⟩
    subst hw1
    go_wp2
    go_ret
    exact ⟨rfl, rfl⟩
  · have HK := hide (HL.out _ h)
    unfold basF at hd
    rw [h] at hd
    have hi2 : i ≤ x.size := by omega
    by_cases h0 : 0 < i
    · rw [if_pos (by omega), Int.toNat_natCast] at hd
      have HD := hide hd
      have gk : decide ((0 : Int) < (i : Int)) = true := decide_eq_true (by omega)
      have gk' : decide (0 < i) = true := decide_eq_true h0
      clear HL h hd h0
      go_enter Tryd.func46, Tryd.ntmps46
      go_wp2_with fail
      refine (HK.out _).mono ?_
      rintro e w1 ⟨rfl, hw1⟩
      subst hw1
      go_wp2
      go_ret
      exact ⟨by rw [← HD.out]; rfl, rfl⟩
    · rw [if_neg (by omega)] at hd
      subst hd
      have gk : decide ((0 : Int) < (i : Int)) = false := decide_eq_false (by omega)
      have gk' : decide (0 < i) = false := decide_eq_false h0
      clear HL h h0
      go_enter Tryd.func46, Tryd.ntmps46
      go_wp2_with fail
      refine (HK.out _).mono ?_
      rintro e w1 ⟨rfl, hw1⟩
      subst hw1
      go_wp2
      go_ret
      exact ⟨rfl, rfl⟩
/-- A selection's stretch. -/
def kyV (s : Sp) : Sp := (min s.1 s.2, max s.1 s.2)
theorem vres_cell1 {fn : Func} {p : Tmp} {ty : TypeId} (h : fn.results = #[.cell p ty]) (tmps : Array Value) (P : Program) (w : World) :
    (results fn tmps).run P w = ((asAddr (tmps.getD p undef)).run P w).andThen fun a w₁ => (loadVar ty a).run P w₁ := by
  simp only [results, h]
  simp [Sem.run_bind, Result.andThen]
set_option maxHeartbeats 2000000 in
theorem spanV (a1 a2 : Int) (k1 k2 : Int) (h1 : min a1 a2 = k1) (h2 : max a1 a2 = k2) (w : World) : Calls Tryd.prog 37 #[.agg #[.int .i64 a1, .int .i64 a2]] w fun e w' => e = .returned (.agg #[.int .i64 k1, .int .i64 k2]) ∧ Below w.heap.size w w' := by
  have hB := fun k1 k2 : Int => bl_alloc (bl_alloc (bl_refl w) (.cells #[.int .i64 a1, .int .i64 a2] 39)) (.cells #[.int .i64 k1, .int .i64 k2] 71)
  subst h1 h2
  rcases Int.lt_trichotomy a1 a2 with h | h | h
  · have e1 : min a1 a2 = a1 := by omega
    have e2 : max a1 a2 = a2 := by omega
    rw [e1, e2]
    have g1 : a1 ≤ a2 := by omega
    have g2 : ¬ a2 < a1 := by omega
    have g3 : ¬ a2 ≤ a1 := by omega
    go_enter Tryd.func37, Tryd.ntmps37
    go_wp2
    refine bodyPost_ret (v := .agg #[.int .i64 a1, .int .i64 a2]) ?_ rfl ⟨rfl, hB _ _⟩
    rw [vres_cell1 rfl]
    go_simp
  · subst h
    have e1 : min a1 a1 = a1 := by omega
    have e2 : max a1 a1 = a1 := by omega
    rw [e1, e2]
    have g2 : ¬ a1 < a1 := by omega
    go_enter Tryd.func37, Tryd.ntmps37
    go_wp2
    refine bodyPost_ret (v := .agg #[.int .i64 a1, .int .i64 a1]) ?_ rfl ⟨rfl, hB _ _⟩
    rw [vres_cell1 rfl]
    go_simp
  · have e1 : min a1 a2 = a2 := by omega
    have e2 : max a1 a2 = a1 := by omega
    rw [e1, e2]
    have g1 : a2 ≤ a1 := by omega
    have g2 : ¬ a1 < a2 := by omega
    have g3 : ¬ a1 ≤ a2 := by omega
    go_enter Tryd.func37, Tryd.ntmps37
    go_wp2
    refine bodyPost_ret (v := .agg #[.int .i64 a2, .int .i64 a1]) ?_ rfl ⟨rfl, hB _ _⟩
    rw [vres_cell1 rfl]
    go_simp
theorem splen_any (a b n : Int) (hn : IntKind.i64.wrap (b - a) = n) (w : World) : Calls Tryd.prog 41 #[.agg #[.int .i64 a, .int .i64 b]] w fun e w' => e = .returned (.int .i64 n) ∧ Below w.heap.size w w' := by
  go_enter Tryd.func41, Tryd.ntmps41
  go_wp2
  go_ret
  exact ⟨rfl, bl_alloc (bl_refl w) _⟩
/-- The word bytes on both sides of a place. -/
def wrdF (x : ByteArray) (k : Nat) : ByteArray := x.extract (dnW (wdP x.data.toList) k) (upW (wdP x.data.toList) x.size k)
theorem wd_at (x : ByteArray) (k : Nat) (h : k < x.size) : wdP x.data.toList k = wordC x[k] := by
  rw [wdP_in _ _ (by exact h)]
  rfl
set_option maxHeartbeats 4000000 in
theorem wordAt_any (x : ByteArray) (k : Nat) (hx : x.size ≤ 1000000) (hk : k ≤ x.size) (r : ByteArray) (hr : wrdF x k = r) (w : World) : Calls Tryd.prog 43 #[.string x, .int .i64 k] w fun e w' => e = .returned (.string r) ∧ w = w' := by
  have HR := hide hr
  clear hr
  go_enter Tryd.func43, Tryd.ntmps43
  go_wp2
  go_loopw [5] (fun v wr => ∃ j : Nat, v = .int .i64 j ∧ j ≤ k ∧ Hid (dnW (wdP x.data.toList) j = dnW (wdP x.data.toList) k) ∧ w = wr) (fun v _ => (intOf v).toNat)
  case atStart => exact ⟨k, rfl, Nat.le_refl _, hide rfl, rfl⟩
  case round =>
    obtain ⟨j, rfl, hj, HJ, rfl⟩ := hrel
    rcases Nat.eq_zero_or_pos j with h0 | h0
    · subst h0
      have gz : decide ((0 : Int) < ((0 : Nat) : Int)) = false := by decide
      have HD := hide (show dnW (wdP x.data.toList) k = 0 from HJ.out.symm)
      clear HJ hj
      go_wp2
      go_loopw [6] (fun v wr => ∃ i : Nat, v = .int .i64 i ∧ k ≤ i ∧ i ≤ x.size ∧ Hid (upW (wdP x.data.toList) x.size i = upW (wdP x.data.toList) x.size k) ∧ w = wr) (fun v _ => x.size - (intOf v).toNat)
      case atStart => exact ⟨k, rfl, Nat.le_refl _, hk, hide rfl, rfl⟩
      case round =>
        obtain ⟨i, rfl, hki, hi, HI, rfl⟩ := hrel
        by_cases hlt : i < x.size
        · have gl : decide (i < x.size) = true := decide_eq_true hlt
          have gl' : decide ((i : Int) < (x.size : Int)) = true := decide_eq_true (by omega)
          have hw := wd_at x i hlt
          rcases hwd : wordC x[i] with _ | _
          · rw [hwd] at hw
            have HU := hide (HI.out.symm.trans (upW_stop _ _ _ hw))
            have HC := hide (fun W => word_m x[i] false hwd W)
            have HF := hide (show x.extract 0 i = r by rw [← HR.out, wrdF, HU.out, HD.out])
            have hdi : 0 ≤ i := by omega
            clear hw hwd HU HI
            go_wp2_with fail
            refine (HC.out _).mono ?_
            rintro e w3 ⟨rfl, hw3⟩
            subst hw3
            go_wp2
            go_ret
            exact ⟨by first | (rw [HF.out]; done) | (rw [HF.out]; rfl) | (have h2 := HF.out; simp at h2; rw [← h2]; rfl), by first | rfl | trivial⟩
          · rw [hwd] at hw
            have HU := hide ((upW_go _ _ _ hlt hw).symm.trans HI.out)
            have HC := hide (fun W => word_m x[i] true hwd W)
            clear hw hwd HI
            go_wp2_with fail
            refine (HC.out _).mono ?_
            rintro e w3 ⟨rfl, hw3⟩
            subst hw3
            go_wp2
            refine ⟨?_, by first | (simp [intOf]; done) | (simp [intOf]; omega)⟩
            first
              | exact ⟨i + 1, by go_num, by omega, by omega, HU, by first | rfl | trivial⟩
              | ((repeat apply Exists.intro); exact ⟨⟨i + 1, by go_num, by omega, by omega, HU, by first | rfl | trivial⟩, rfl⟩)
        · obtain rfl : i = x.size := by omega
          have gl : decide (x.size < x.size) = false := by simp
          have HU := hide (HI.out.symm.trans (upW_end _ _ _ (Nat.le_refl _)))
          have HF := hide (show x.extract 0 x.size = r by rw [← HR.out, wrdF, HU.out, HD.out])
          have hdi : 0 ≤ x.size := by omega
          clear HU HI hlt
          go_wp2
          go_ret
          exact ⟨by first | (rw [HF.out]; done) | (rw [HF.out]; rfl) | (have h2 := HF.out; simp at h2; rw [← h2]; rfl), by first | rfl | trivial⟩
    · obtain ⟨m, hm⟩ : ∃ m, m + 1 = j := ⟨j - 1, by omega⟩
      have hmx : m < x.size := by omega
      have gz : decide ((0 : Int) < (j : Int)) = true := decide_eq_true (by omega)
      have gz' : decide (0 < j) = true := decide_eq_true h0
      have gw : IntKind.i64.wrap ((j : Int) - 1) = (m : Int) := by rw [IntKind.wrap_i64]; omega
      have hw := wd_at x m hmx
      have hs : dnW (wdP x.data.toList) j = if wdP x.data.toList m then dnW (wdP x.data.toList) m else j := by rw [← hm]; rfl
      rcases hwd : wordC x[m] with _ | _
      · rw [hwd] at hw
        rw [hw, if_neg (by simp)] at hs
        have HD := hide (show dnW (wdP x.data.toList) k = j from HJ.out.symm.trans hs)
        have HC := hide (fun W => word_m x[m] false hwd W)
        clear hw hwd hs HJ h0
        go_wp2_with fail
        refine (HC.out _).mono ?_
        rintro e w2 ⟨rfl, hw2⟩
        subst hw2
        clear HC gz gz' gw
        go_wp2
        go_loopw [6] (fun v wr => ∃ i : Nat, v = .int .i64 i ∧ k ≤ i ∧ i ≤ x.size ∧ Hid (upW (wdP x.data.toList) x.size i = upW (wdP x.data.toList) x.size k) ∧ w = wr) (fun v _ => x.size - (intOf v).toNat)
        case atStart => exact ⟨k, rfl, Nat.le_refl _, hk, hide rfl, rfl⟩
        case round =>
          obtain ⟨i, rfl, hki, hi, HI, rfl⟩ := hrel
          by_cases hlt : i < x.size
          · have gl : decide (i < x.size) = true := decide_eq_true hlt
            have gl' : decide ((i : Int) < (x.size : Int)) = true := decide_eq_true (by omega)
            have hw := wd_at x i hlt
            rcases hwd : wordC x[i] with _ | _
            · rw [hwd] at hw
              have HU := hide (HI.out.symm.trans (upW_stop _ _ _ hw))
              have HC := hide (fun W => word_m x[i] false hwd W)
              have HF := hide (show x.extract j i = r by rw [← HR.out, wrdF, HU.out, HD.out])
              have hdi : j ≤ i := by omega
              clear hw hwd HU HI
              go_wp2_with fail
              refine (HC.out _).mono ?_
              rintro e w3 ⟨rfl, hw3⟩
              subst hw3
              go_wp2
              go_ret
              exact ⟨by first | (rw [HF.out]; done) | (rw [HF.out]; rfl) | (have h2 := HF.out; simp at h2; rw [← h2]; rfl), by first | rfl | trivial⟩
            · rw [hwd] at hw
              have HU := hide ((upW_go _ _ _ hlt hw).symm.trans HI.out)
              have HC := hide (fun W => word_m x[i] true hwd W)
              clear hw hwd HI
              go_wp2_with fail
              refine (HC.out _).mono ?_
              rintro e w3 ⟨rfl, hw3⟩
              subst hw3
              go_wp2
              refine ⟨?_, by first | (simp [intOf]; done) | (simp [intOf]; omega)⟩
              first
                | exact ⟨i + 1, by go_num, by omega, by omega, HU, by first | rfl | trivial⟩
                | ((repeat apply Exists.intro); exact ⟨⟨i + 1, by go_num, by omega, by omega, HU, by first | rfl | trivial⟩, rfl⟩)
          · obtain rfl : i = x.size := by omega
            have gl : decide (x.size < x.size) = false := by simp
            have HU := hide (HI.out.symm.trans (upW_end _ _ _ (Nat.le_refl _)))
            have HF := hide (show x.extract j x.size = r by rw [← HR.out, wrdF, HU.out, HD.out])
            have hdi : j ≤ x.size := by omega
            clear HU HI hlt
            go_wp2
            go_ret
            exact ⟨by first | (rw [HF.out]; done) | (rw [HF.out]; rfl) | (have h2 := HF.out; simp at h2; rw [← h2]; rfl), by first | rfl | trivial⟩
      · rw [hwd] at hw
        rw [hw, if_pos rfl] at hs
        have HM := hide (show dnW (wdP x.data.toList) m = dnW (wdP x.data.toList) k from hs.symm.trans HJ.out)
        have HC := hide (fun W => word_m x[m] true hwd W)
        clear hw hwd hs HJ
        go_wp2_with fail
        refine (HC.out _).mono ?_
        rintro e w2 ⟨rfl, hw2⟩
        subst hw2
        go_wp2
        refine ⟨?_, by first | (simp [intOf]; done) | (simp [intOf]; omega)⟩
        first
          | exact ⟨m, by go_num, by omega, HM, by first | rfl | trivial⟩
          | ((repeat apply Exists.intro); exact ⟨⟨m, by go_num, by omega, HM, by first | rfl | trivial⟩, rfl⟩)
/-- What the list of a place holds so far: a variable of its own, at W9's end. -/
def Acc (W9 : World) (l : List Rw) (W : World) : Prop :=
  Below W9.heap.size W9 W ∧ W.frozen? ⟨W9.heap.size, 0, none⟩ = false ∧ ∃ v, W.cell? ⟨W9.heap.size, 0, none⟩ = some v ∧ W.ownsRow (W9.heap.size + 1) 46 2 v l.length (flatR l)
theorem Acc.bl {W9 W W' : World} {l : List Rw} (h : Acc W9 l W) (hb : Below W.heap.size W W') : Acc W9 l W' := by
  obtain ⟨h1, h2, v, h3, h4⟩ := h
  have hlt := World.block_lt_of_cell? _ _ h3
  exact ⟨bl_trans h1 hb, by rw [hb.frozen (p := ⟨W9.heap.size, 0, none⟩) hlt]; exact h2, v, cell_later hb h3, own_below h4 hb⟩
theorem far_cf {W w4 : World} {A : Nat} {row : Option Nat} {v : Value} (hg : W.grownBy w4 row) (hlt : A < W.heap.size) (hne : row ≠ some A) (hc : W.cell? ⟨A, 0, none⟩ = some v) (hf : W.frozen? ⟨A, 0, none⟩ = false) : w4.cell? ⟨A, 0, none⟩ = some v ∧ w4.frozen? ⟨A, 0, none⟩ = false := by
  have hh := hg.block A hlt (fun h => hne h.symm)
  exact ⟨by rw [World.cell?_of_block (a := ⟨A, 0, none⟩) hh]; exact hc, by rw [World.frozen?_of_block (a := ⟨A, 0, none⟩) hh]; exact hf⟩
set_option maxHeartbeats 2000000 in
theorem add_any {W9 W : World} {l : List Rw} (h : Acc W9 l W) (hl : l.length ≤ 1000) (nm vl : ByteArray) :
    Calls Tryd.prog 40 #[.string nm, .string vl, .pointer (some ⟨W9.heap.size, 0, none⟩)] W fun e w' => e = .returned (.tuple #[]) ∧ Acc W9 (l ++ [(nm, vl)]) w' := by
  obtain ⟨i0, hi0, hz0', hz1, hz2⟩ := info_parts info_rw
  obtain ⟨hb, hf, v, hc, ho⟩ := h
  obtain ⟨aV, cV, rfl⟩ := own_slice ho
  have hlt : W9.heap.size < W.heap.size := World.block_lt_of_cell? _ _ hc
  have ag : (Value.slice aV l.length cV).ownBlock ≠ some W9.heap.size := fun h => by have := (World.ownsRow.lt ho _ h).1; omega
  have HO := hide ho
  have HB := hide hb
  clear ho hb
  go_enter Tryd.func40, Tryd.ntmps40
  go_wp2_with (at_builtin; (refine wpList_push W rfl _ _ 22 rfl (W9.heap.size + 1) 46 i0 (.agg #[.string ⟨#[]⟩, .string ⟨#[]⟩]) 2 32 Tryd.underlying22 hi0 hz0' hz1 hz2 rfl (by decide) (.slice aV l.length cV) l.length (flatR l) rfl HO.out 1 #[.string nm, .string vl] rfl rfl (by simp [Value.oneCell']) (by omega) (by decide) (by omega) ?_); intro v' w4 hv4 hg4 hat; clear hat; obtain ⟨aX, cX, rfl⟩ := own_slice hv4; obtain ⟨hc4, hf4⟩ := far_cf hg4 hlt ag hc hf; clear hc hf)
  have hv5 : w4.ownsRow (W9.heap.size + 1) 46 2 (.slice aX (l.length + 1) cX) (l ++ [(nm, vl)]).length (flatR (l ++ [(nm, vl)])) := by
    rw [flatR_app, List.length_append]; exact hv4
  have HV5 := hide (ownsRow_setCell_below hv5 (a := ⟨W9.heap.size, 0, none⟩) (Nat.lt_succ_self _) (.slice aX (l.length + 1) cX))
  have HB5 := hide (bl_set (bl_own HB.out HO.out hg4 (Nat.le_succ _)) (p := ⟨W9.heap.size, 0, none⟩) (Nat.le_refl _) (.slice aX (l.length + 1) cX))
  have HC5 := hide (World.cell?_setCell_same w4 ⟨W9.heap.size, 0, none⟩ (.slice aX (l.length + 1) cX) hc4)
  have HF5 := hide (show (w4.setCell ⟨W9.heap.size, 0, none⟩ (.slice aX (l.length + 1) cX)).frozen? ⟨W9.heap.size, 0, none⟩ = false by rw [World.frozen?_setCell]; exact hf4)
  clear hv4 hv5 hg4
  go_end0
  exact ⟨rfl, HB5.out, HF5.out, _, HC5.out, HV5.out⟩
end Go.Proofs.YtmjadcjpgcbalaaDoor
