/- Contracts: names of variables; a variable set (vars.Set). Condition: texts and lists that are not too long. Contract: lines of a text, as layer 23's statements make them. Condition: a text that is not too long. What every program answers that is one (layer 23's laws). No condition. Contracts: vars.Place where there is no rope, where a selection is out of the text, and in a text (what its line is). Condition: a text that is not too long. What the library's table of powers gives: every number is told (strconv.Itoa). Condition: the table as the program's text lays it. Words at a place of a text, by its line (plain mathematics). A path's directory, file, base; what is told of a place with a path (plain mathematics). Contracts: the reference's names and variables; what is known; two lists of variables held against one another. Condition: texts and lists that are not too long. Contract: the reference's digits; plain facts on digits and lists of names made of them. Condition: numbers below 1000000. Contracts: the reference's last place of a byte, and its span. Condition: texts that are not too long. Arguments that are stretches, or slices of them: what a walk is told. No condition. -/
import Derived.Test.YtmjadcjpgcbalaaDoorVarA
import Derived.Test.YtmjadcjpgcbalaaDoorLinR
import Derived.Test.YtmjadcjpgcbalaaDoorVarB
import Derived.Test.YtmjadcjpgcbalaaDoorRows
import Derived.Lib.LaidTab
import Derived.Lib.AppendIntMem
import Derived.MakeChecks
import Derived.LaidHandle
import Derived.Lib.LazyBuf
import Derived.Test.YtmjadcjpgcbalaaDoorSpanA
import Derived.Deep.SlicePairs
import Derived.Lib.SmallJoins
namespace Go.Proofs.YtmjadcjpgcbalaaDoor
section
section
open Go.ChangeShapes Go.WideShapes Go.ChangeAt Go.RowKit
open SpanM SetM
attribute [local go_sem ↓] Go.wp_at_zero Go.wp_at_succ
set_option maxRecDepth 100000
set_option linter.unusedVariables false
/-- Is it a name? -/
def nameB (x : ByteArray) : Bool := decide (0 < x.size) && decide (x.size ≤ 64) && !digZ ((x.data.toList.getD 0 0).toNat : Int) && x.data.toList.all fun c => namZ (c.toNat : Int)
theorem u8_lt (c : UInt8) : (0 : Int) ≤ (c.toNat : Int) ∧ (c.toNat : Int) < 256 := by
  have := c.toNat_lt
  omega
theorem get_l (x : ByteArray) (k : Nat) (h : k < x.size) : x.data.toList.getD k 0 = x[k] := by
  rw [List.getD_eq_getElem?_getD, List.getElem?_eq_getElem (by exact h)]
  rfl
set_option maxHeartbeats 4000000 in
theorem name_any (x : ByteArray) (hx : x.size ≤ 1000000) (b : Bool) (hb : nameB x = b) (w : World) : Calls Tryd.prog 30 #[.string x] w fun e w' => e = .returned (.bool b) ∧ w = w' := by
  by_cases h0 : x.size = 0
  · have hx0 : x = ⟨#[]⟩ := by
      apply SetM.ext
      show x.data.toList = []
      exact List.eq_nil_of_length_eq_zero h0
    subst hx0
    have hb2 : b = false := by rw [← hb]; decide
    subst hb2
    clear hb h0
    go_enter Tryd.func30, Tryd.ntmps30
    go_wp2
    go_ret
    exact ⟨rfl, rfl⟩
  have e0 : x.toList.isEmpty = false := by
    rw [Go.ByteArray.toList_eq]
    cases hl : x.data.toList with
    | nil => exfalso; apply h0; show x.data.toList.length = 0; rw [hl]; rfl
    | cons a r => rfl
  have hp : 0 < x.size := by omega
  by_cases h64 : 64 < x.size
  · have hb2 : b = false := by
      rw [← hb]; unfold nameB
      rw [decide_eq_false (show ¬ x.size ≤ 64 by omega)]; simp
    subst hb2
    have g1 : decide ((64 : Int) < (x.size : Int)) = true := decide_eq_true (by omega)
    have g1' : decide (64 < x.size) = true := decide_eq_true h64
    clear hb h0 h64
    go_enter Tryd.func30, Tryd.ntmps30
    go_wp2
    go_ret
    exact ⟨rfl, rfl⟩
  have g1 : decide ((64 : Int) < (x.size : Int)) = false := decide_eq_false (by omega)
  have g1' : decide (64 < x.size) = false := decide_eq_false h64
  have HDG := hide (fun W => dig_m ((x[0].toNat : Nat) : Int) (u8_lt _).1 (u8_lt _).2 W)
  rcases hd : digZ ((x[0].toNat : Nat) : Int) with _ | _
  · rw [hd] at HDG
    have HB := hide hb
    have HD := hide hd
    have H64 := hide h64
    clear hb hd h0 h64
    go_enter Tryd.func30, Tryd.ntmps30
    go_wp2_with fail
    refine (HDG.out _).mono ?_
    rintro e w1 ⟨rfl, hw1⟩
    subst hw1
    clear g1 g1' e0
    go_wp2
    go_loopw [18] (fun i wr => ∃ k : Nat, i = .int .i64 k ∧ k ≤ x.size ∧ Hid (∀ j (hj : j < x.size), j < k → namZ ((x[j].toNat : Nat) : Int) = true) ∧ w = wr) (fun i _ => x.size - (intOf i).toNat)
    case atStart => exact ⟨0, rfl, Nat.zero_le _, hide (fun j _ h => by omega), rfl⟩
    case round =>
      obtain ⟨k, rfl, hk, HA, rfl⟩ := hrel
      by_cases hlt : k < x.size
      · have gl : decide (k < x.size) = true := decide_eq_true hlt
        have gl' : decide ((k : Int) < (x.size : Int)) = true := decide_eq_true (by omega)
        have HN := hide (fun W => nam_m ((x[k].toNat : Nat) : Int) (u8_lt _).1 (u8_lt _).2 W)
        rcases hn : namZ ((x[k].toNat : Nat) : Int) with _ | _
        · rw [hn] at HN
          have hb2 : b = false := by
            rw [← HB.out]; unfold nameB
            rw [show (x.data.toList.all fun c => namZ (c.toNat : Int)) = false from by
              rw [List.all_eq_false]
              refine ⟨x.data.toList[k]'(by exact hlt), List.getElem_mem _, ?_⟩
              show ¬ namZ ((x[k].toNat : Nat) : Int) = true
              rw [hn]; simp]
            simp
          subst hb2
          clear hn HA HB HD H64
          go_wp2_with fail
          refine (HN.out _).mono ?_
          rintro e w2 ⟨rfl, hw2⟩
          subst hw2
          go_wp2
          go_ret
          exact ⟨rfl, by first | rfl | trivial⟩
        · rw [hn] at HN
          have HA2 := hide (show ∀ j (hj : j < x.size), j < k + 1 → namZ ((x[j].toNat : Nat) : Int) = true from fun j hj h => by
            rcases Nat.eq_or_lt_of_le (Nat.le_of_lt_succ h) with h1 | h1
            · subst h1; exact hn
            · exact HA.out j hj h1)
          clear hn HA
          go_wp2_with fail
          refine (HN.out _).mono ?_
          rintro e w2 ⟨rfl, hw2⟩
          subst hw2
          go_wp2
          refine ⟨?_, by first | (simp [intOf]; done) | (simp [intOf]; omega)⟩
          first
            | exact ⟨k + 1, by go_num, by omega, HA2, by first | rfl | trivial⟩
            | ((repeat apply Exists.intro); exact ⟨⟨k + 1, by go_num, by omega, HA2, by first | rfl | trivial⟩, rfl⟩)
      · obtain rfl : k = x.size := by omega
        have gl : decide (x.size < x.size) = false := by simp
        have hb2 : b = true := by
          rw [← HB.out]; unfold nameB
          have h1 := HD.out
          have h2 := H64.out
          rw [get_l x 0 hp, h1, decide_eq_true hp, decide_eq_true (show x.size ≤ 64 by omega), show (x.data.toList.all fun c => namZ (c.toNat : Int)) = true from by
            rw [List.all_eq_true]
            intro c hc
            obtain ⟨j, hj, rfl⟩ := List.getElem_of_mem hc
            exact HA.out j hj hj]
          rfl
        subst hb2
        clear HA HB HD H64 hlt
        go_wp2
        go_ret
        exact ⟨rfl, by first | rfl | trivial⟩
  · rw [hd] at HDG
    have hb2 : b = false := by
      rw [← hb]; unfold nameB
      rw [get_l x 0 hp, hd]; simp
    subst hb2
    clear hb hd h0 h64
    go_enter Tryd.func30, Tryd.ntmps30
    go_wp2_with fail
    refine (HDG.out _).mono ?_
    rintro e w1 ⟨rfl, hw1⟩
    subst hw1
    go_wp2
    go_ret
    exact ⟨rfl, by first | rfl | trivial⟩
/-- Where a name stands first, or -1. -/
def FstAt (l : List Rw) (nm : ByteArray) (j : Int) : Prop := (j = -1 ∧ ∀ i (h : i < l.length), eqB l[i].1 nm = false) ∨ ∃ (k : Nat) (h : k < l.length), j = k ∧ eqB l[k].1 nm = true ∧ ∀ i (hi : i < k), eqB (l[i]'(by omega)).1 nm = false
def IdxPost2 (l : List Rw) (nm : ByteArray) (w : World) (e : Ending) (w' : World) : Prop :=
  ∃ j : Int, e = .returned (.int .i64 j) ∧ Below w.heap.size w w' ∧ Hid (FstAt l nm j)
set_option maxHeartbeats 2000000 in
theorem idx2_any (v : Value) (l : List Rw) (nm : ByteArray) (b : Nat) (w : World) (h : RwAt w v l) (hl : l.length ≤ 1000) (hc : w.cell? ⟨b, 0, none⟩ = some (.string nm)) :
    Calls Tryd.prog 57 #[v, .func (.func 58) #[] #[.pointer (some ⟨b, 0, none⟩)]] w (IdxPost2 l nm w) := by
  have HW := hide h
  have HC := hide hc
  obtain ⟨aA, cA, rfl⟩ := rwat_len h
  clear h hc
  go_enter Tryd.func57, Tryd.ntmps57
  go_wp2
  go_loopw [8] (fun i wr => ∃ k : Nat, i = .int .i64 k ∧ k ≤ l.length ∧ Hid (∀ i (hi : i < l.length), i < k → eqB l[i].1 nm = false) ∧ Below w.heap.size w wr) (fun i _ => l.length - (intOf i).toNat)
  case atStart => exact ⟨0, rfl, Nat.zero_le _, hide (fun i _ h => by omega), bl_refl w⟩
  case round =>
    obtain ⟨k, rfl, hk, HV, hbl⟩ := hrel
    by_cases hlt : k < l.length
    · obtain ⟨b1, o1, c1, hv1, hc1, hm1, hlb1, hcell1⟩ := rwat_some (rwat_below HW.out hbl) (by omega)
      injection hv1 with hv1 _ hv1c
      subst hv1 hv1c
      unfold maxLen at hm1
      obtain ⟨x1, x2⟩ := hcell1 k hlt
      obtain ⟨r, hr⟩ : ∃ r, eqB l[k].1 nm = r := ⟨_, rfl⟩
      have HCL := hide (fun W (hW : W.cell? ⟨b, 0, none⟩ = some (.string nm)) => clos_any l[k] nm b r W hW hr)
      have HCN := hide (cell_later hbl HC.out)
      cases r
      · have HV2 := hide (show ∀ i (hi : i < l.length), i < k + 1 → eqB l[i].1 nm = false from fun i hi h => by
          rcases Nat.eq_or_lt_of_le (Nat.le_of_lt_succ h) with h1 | h1
          · subst h1; exact hr
          · exact HV.out i hi h1)
        clear hr HV hcell1
        generalize l[k] = s at *
        go_wp2_with (go_at_call 58; refine (HCL.out _ HCN.out).mono ?_; rintro e w1 ⟨rfl, hb1⟩)
        refine ⟨?_, by first | (simp [intOf]; done) | (simp [intOf]; omega)⟩
        have hb2 := bl_trans hbl hb1
        first
          | exact ⟨k + 1, by go_num, by omega, HV2, hb2⟩
          | ((repeat apply Exists.intro); exact ⟨⟨k + 1, by go_num, by omega, HV2, hb2⟩, rfl⟩)
      · have HP := hide (show ∀ W, Below w.heap.size w W → IdxPost2 l nm w (.returned (.int .i64 k)) W from fun W hW => ⟨k, rfl, hW, hide (.inr ⟨k, hlt, rfl, hr, fun i hi => HV.out i (by omega) hi⟩)⟩)
        clear hr HV hcell1
        generalize l[k] = s at *
        go_wp2_with (go_at_call 58; refine (HCL.out _ HCN.out).mono ?_; rintro e w1 ⟨rfl, hb1⟩)
        go_ret
        exact HP.out _ (bl_trans hbl hb1)
    · obtain rfl : k = l.length := by omega
      have HP := hide (show IdxPost2 l nm w (.returned (.int .i64 (-1))) wr from ⟨-1, rfl, hbl, hide (.inl ⟨rfl, fun i hi => HV.out i hi hi⟩)⟩)
      clear HV hlt
      go_wp2
      go_ret
      exact HP.out
theorem find2_any (v : Value) (l : List Rw) (nm : ByteArray) (w : World) (h : RwAt w v l) (hl : l.length ≤ 1000) : Calls Tryd.prog 31 #[.string nm, v] w (IdxPost2 l nm w) := by
  have HW1 := hide (rwat_below h (bl_alloc (bl_refl w) (.cells #[.string nm] 9)))
  have hcc : (w.alloc (.cells #[.string nm] 9)).cell? ⟨w.heap.size, 0, none⟩ = some (.string nm) := by go_simp
  have HCC := hide hcc
  obtain ⟨aA, cA, rfl⟩ := rwat_len h
  clear hcc h
  go_enter Tryd.func31, Tryd.ntmps31
  go_wp2_with fail
  refine (idx2_any _ l nm w.heap.size _ HW1.out hl HCC.out).mono ?_
  rintro e w1 ⟨j, rfl, hb1, HJ⟩
  have HP := hide (show IdxPost2 l nm w (.returned (.int .i64 j)) w1 from ⟨j, rfl, bl_trans (bl_alloc (bl_refl w) _) hb1, HJ⟩)
  go_wp2
  go_ret
  exact HP.out
set_option maxHeartbeats 1000000 in
theorem cloneR_any (v : Value) (l : List Rw) (w : World) (h : RwAt w v l) (hl : l.length ≤ 1000) :
    Calls Tryd.prog 32 #[v] w fun e w' => ∃ v', e = .returned v' ∧ Below w.heap.size w w' ∧ w'.ownsRow w.heap.size 46 2 v' l.length (flatR l) := by
  obtain ⟨i0, hi0, hz0', hz1, hz2⟩ := info_parts info_rw
  have hsn := fun (W : World) (a : Option Addr) (n c : Nat) => Lib.run_eql_slice_nil (P := Tryd.prog) W 22 46 a n c 0 0 Tryd.underlying22
  rcases h with ⟨rfl, rfl⟩ | ⟨x, c, rfl, h1, h2, h3⟩
  · go_enter Tryd.func32, Tryd.ntmps32
    go_wp2
    go_ret
    exact ⟨_, rfl, bl_refl w, ⟨rfl, .inl ⟨rfl, rfl⟩⟩⟩
  · have hm0 := World.ownsRow_made (base := w.heap.size) (e := 46) (size := 2) w #[] 0 (Nat.le_refl _) (by simp [maxLen]) (by simp)
    have hnews : ∀ j u, (flatR l)[j]? = some u → (w.alloc (.cells #[] 46)).cell? (x.add j) = some u := by
      intro j u hu
      have hj : j < l.length * 2 := by
        have := (List.getElem?_eq_some_iff.1 hu).1
        rwa [flatR_len] at this
      have hq : j / 2 < l.length := by omega
      have hf := flatR_at l (j / 2) hq
      have hc := h3 (j / 2) hq
      rcases Nat.mod_two_eq_zero_or_one j with hh | hh
      · have ht : j / 2 * 2 = j := by omega
        rw [ht] at hf hc
        rw [hu] at hf
        rw [Option.some.inj hf.1]
        exact cell_later (bl_alloc (bl_refl w) _) hc.1
      · have ht : j / 2 * 2 + 1 = j := by omega
        rw [ht] at hf hc
        rw [hu] at hf
        rw [Option.some.inj hf.2]
        exact cell_later (bl_alloc (bl_refl w) _) hc.2
    have hbb : (l.length) * 32 ≤ 140737488355328 := by omega
    clear h3
    go_enter Tryd.func32, Tryd.ntmps32
    go_wp2_with (at_builtin; (refine wpList_append_own _ rfl _ _ 22 rfl w.heap.size 46 i0 (.agg #[.string ⟨#[]⟩, .string ⟨#[]⟩]) 2 32 Tryd.underlying22 hi0 hz0' hz1 hz2 rfl (by decide) _ 0 [] rfl hm0 x l.length c (flatR l) rfl (flatR_len l) hnews (flatR_one l) (by unfold maxLen; omega) (by omega) (by simp) ?_); intro v' w4 hv4 hg4 hat)
    go_ret
    rw [Nat.zero_add, List.nil_append] at hv4
    exact ⟨_, rfl, bl_own (bl_alloc (bl_refl w) _) hm0 hg4 (Nat.le_refl _), hv4⟩

/-- A variable set. -/
def setL (nm v : ByteArray) : List Rw → List Rw
  | [] => [(nm, v)]
  | s :: r => if eqB s.1 nm = true then (s.1, v) :: r else s :: setL nm v r
def setE (nm v : ByteArray) (l : List Rw) : Int := if nameB nm = false then 2 else if 65536 < v.size then 4 else if getB nm l = false ∧ 64 ≤ l.length then 7 else 0
def setR (nm v : ByteArray) (l : List Rw) : List Rw := if setE nm v l = 0 then setL nm v l else []
theorem fst_no {l : List Rw} {nm : ByteArray} (h : ∀ i (h : i < l.length), eqB l[i].1 nm = false) (v : ByteArray) : getB nm l = false ∧ setL nm v l = l ++ [(nm, v)] := by
  induction l with
  | nil => exact ⟨rfl, rfl⟩
  | cons s r ih =>
    have h0 := h 0 (by simp)
    obtain ⟨i1, i2⟩ := ih (fun i hi => h (i + 1) (by simpa using hi))
    have h0' : eqB s.1 nm = false := h0
    refine ⟨?_, ?_⟩
    · unfold getB at i1 ⊢; rw [List.any_cons, h0', i1]; rfl
    · rw [setL, if_neg (by rw [h0']; simp), i2]; rfl
theorem fst_at {l : List Rw} {nm : ByteArray} (k : Nat) (hk : k < l.length) (h1 : eqB l[k].1 nm = true) (h2 : ∀ i (hi : i < k), eqB (l[i]'(by omega)).1 nm = false) (v : ByteArray) : getB nm l = true ∧ setL nm v l = l.set k (l[k].1, v) := by
  induction l generalizing k with
  | nil => simp at hk
  | cons s r ih =>
    cases k with
    | zero =>
      have h1' : eqB s.1 nm = true := h1
      refine ⟨?_, ?_⟩
      · unfold getB; rw [List.any_cons, h1']; rfl
      · rw [setL, if_pos h1']; rfl
    | succ k =>
      have h0 : eqB s.1 nm = false := h2 0 (by omega)
      obtain ⟨i1, i2⟩ := ih k (by simpa using hk) h1 (fun i hi => h2 (i + 1) (by omega))
      refine ⟨?_, ?_⟩
      · unfold getB at i1 ⊢; rw [List.any_cons, i1]; simp
      · rw [setL, if_neg (by rw [h0]; simp), i2]; rfl
def SetPost (w : World) (E : Int) (R : List Rw) (e : Ending) (w' : World) : Prop := ∃ v', e = .returned (.tuple #[v', .int .i64 E]) ∧ Below w.heap.size w w' ∧ w'.ownsRow w.heap.size 46 2 v' R.length (flatR R)
theorem set_nil {w w' : World} {E : Int} (hb : Below w.heap.size w w') : SetPost w E [] (.returned (.tuple #[.slice none 0 0, .int .i64 E])) w' := ⟨_, rfl, hb, ⟨rfl, .inl ⟨rfl, rfl⟩⟩⟩
set_option maxHeartbeats 8000000 in
theorem set_any (nm v : ByteArray) (v0 : Value) (l : List Rw) (w : World) (h : RwAt w v0 l) (hl : l.length ≤ 100) (hn : nm.size ≤ 1000000) :
    Calls Tryd.prog 12 #[.string nm, .string v, v0] w (SetPost w (setE nm v l) (setR nm v l)) := by
  obtain ⟨i0, hi0, hz0', hz1, hz2⟩ := info_parts info_rw
  have HN := hide (fun b hb W => name_any nm hn b hb W)
  have HF := hide (fun W (hb : Below w.heap.size w W) => find2_any v0 l nm W (rwat_below h hb) (by omega))
  have HCN := hide (fun W (hb : Below w.heap.size w W) => cloneR_any v0 l W (rwat_below h hb) (by omega))
  have HW := hide h
  obtain ⟨aA, cA, rfl⟩ := rwat_len h
  clear h
  rcases hnb : nameB nm with _ | _
  · have HK := hide (HN.out _ hnb)
    have e1 : setE nm v l = 2 := by unfold setE; rw [if_pos hnb]
    have e2 : setR nm v l = [] := by unfold setR; rw [if_neg (by rw [e1]; decide)]
    rw [e1, e2]
    clear e1 e2 hnb HN HF HCN HW
    go_enter Tryd.func12, Tryd.ntmps12
    go_wp2_with fail
    refine (HK.out _).mono ?_
    rintro e w1 ⟨rfl, hw1⟩
    subst hw1
    go_wp2
    go_ret2
    exact set_nil (bl_refl _)
  have HK := hide (HN.out _ hnb)
  by_cases hv : 65536 < v.size
  · have e1 : setE nm v l = 4 := by unfold setE; rw [if_neg (by rw [hnb]; simp), if_pos hv]
    have e2 : setR nm v l = [] := by unfold setR; rw [if_neg (by rw [e1]; decide)]
    rw [e1, e2]
    have gv : decide ((65536 : Int) < (v.size : Int)) = true := decide_eq_true (by omega)
    have gv' : decide (65536 < v.size) = true := decide_eq_true hv
    clear e1 e2 hnb HN HF HCN HW hv
    go_enter Tryd.func12, Tryd.ntmps12
    go_wp2_with fail
    refine (HK.out _).mono ?_
    rintro e w1 ⟨rfl, hw1⟩
    subst hw1
    go_wp2
    go_ret2
    exact set_nil (bl_refl _)
  have gv : decide ((65536 : Int) < (v.size : Int)) = false := decide_eq_false (by omega)
  have gv' : decide (65536 < v.size) = false := decide_eq_false hv
  have HNB := hide hnb
  have HVV := hide hv
  clear hnb HN hv
  go_enter Tryd.func12, Tryd.ntmps12
  go_wp2_with fail
  refine (HK.out _).mono ?_
  rintro e w1 ⟨rfl, hw1⟩
  subst hw1
  go_wp2_with fail
  refine (HF.out _ (bl_refl w)).mono ?_
  rintro e w2 ⟨j, rfl, hb2, HJ⟩
  clear gv gv' HF HK
  rcases HJ.out with ⟨rfl, hj⟩ | ⟨k, hk, rfl, hk1, hk2⟩
  · obtain ⟨f1, f2⟩ := fst_no hj v
    by_cases hfull : 64 ≤ l.length
    · have e1 : setE nm v l = 7 := by unfold setE; rw [if_neg (by rw [HNB.out]; simp), if_neg HVV.out, if_pos ⟨f1, hfull⟩]
      have e2 : setR nm v l = [] := by unfold setR; rw [if_neg (by rw [e1]; decide)]
      have HE := hide (And.intro e1 e2)
      have gf : decide ((64 : Int) ≤ (l.length : Int)) = true := decide_eq_true (by omega)
      have gf' : decide (64 ≤ l.length) = true := decide_eq_true hfull
      clear e1 e2 f1 f2 hj HJ HNB HVV hfull HCN
      go_wp2
      go_ret2
      rw [HE.out.1, HE.out.2]
      exact set_nil hb2
    · have e1 : setE nm v l = 0 := by unfold setE; rw [if_neg (by rw [HNB.out]; simp), if_neg HVV.out, if_neg (fun h => hfull h.2)]
      have e2 : setR nm v l = l ++ [(nm, v)] := by unfold setR; rw [if_pos e1, f2]
      have HE := hide (And.intro e1 e2)
      have gf : decide ((64 : Int) ≤ (l.length : Int)) = false := decide_eq_false (by omega)
      have gf' : decide (64 ≤ l.length) = false := decide_eq_false hfull
      clear e1 e2 f1 f2 hj HJ HNB HVV hfull
      go_wp2_with fail
      refine (HCN.out _ hb2).mono ?_
      rintro e w3 ⟨v3, rfl, hb3, ho3⟩
      have ho3 := own_base ho3 hb2.size
      have HB3 := hide (bl_trans hb2 hb3)
      obtain ⟨aV, cV, rfl⟩ := own_slice ho3
      have HO := hide ho3
      have hz := HB3.out.size
      clear ho3 hb3 hb2 HCN
      go_wp2_with (at_builtin; (refine wpList_push w3 rfl _ _ 22 rfl w.heap.size 46 i0 (.agg #[.string ⟨#[]⟩, .string ⟨#[]⟩]) 2 32 Tryd.underlying22 hi0 hz0' hz1 hz2 rfl (by decide) (.slice aV l.length cV) l.length (flatR l) rfl HO.out 1 #[.string nm, .string v] rfl rfl (by simp [Value.oneCell']) (by omega) (by decide) (by omega) ?_); intro v' w4 hv4 hg4 hat; have HV4 := hide hv4; have HG4 := hide hg4; clear hv4 hg4 hat)
      go_ret2
      rw [HE.out.1, HE.out.2]
      refine ⟨v', rfl, bl_own HB3.out HO.out HG4.out (Nat.le_refl _), ?_⟩
      rw [flatR_app, List.length_append]
      exact HV4.out
  · obtain ⟨f1, f2⟩ := fst_at k hk hk1 hk2 v
    have e1 : setE nm v l = 0 := by unfold setE; rw [if_neg (by rw [HNB.out]; simp), if_neg HVV.out, if_neg (fun h => by rw [f1] at h; simp at h)]
    have e2 : setR nm v l = l.set k (l[k].1, v) := by unfold setR; rw [if_pos e1, f2]
    have HE := hide (And.intro e1 e2)
    have gk : decide ((k : Int) < 0) = false := decide_eq_false (by omega)
    clear e1 e2 f1 f2 hk1 hk2 HJ HNB HVV
    go_wp2_with fail
    refine (HCN.out _ hb2).mono ?_
    rintro e w3 ⟨v3, rfl, hb3, ho3⟩
    have ho3 := own_base ho3 hb2.size
    have HB3 := hide (bl_trans hb2 hb3)
    rcases own_form ho3 with ⟨_, g1, g2⟩ | ⟨g, c, rfl, g1, g2, g3, g4, g5⟩
    · omega
    unfold maxLen at g4
    have y1 : w3.cell? ⟨g, k * 2 + 1, none⟩ = some (.string l[k].2) := by rw [World.ownsRow.cellAt ho3 (k * 2 + 1) (by omega)]; exact (flatR_at l k hk).2
    have yf := World.ownsRow.frozenAt ho3 (k * 2 + 1)
    have ho4 := (World.ownsRow.stored ho3 (k * 2 + 1) (.string v)).1
    rw [flatR_set1 l k hk v] at ho4
    have HO4 := hide ho4
    have HB4 := hide (bl_set HB3.out (p := ⟨g, k * 2 + 1, none⟩) g1 (.string v))
    clear ho3 ho4 hb3 hb2 HCN g5
    go_wp2
    go_ret2
    rw [HE.out.1, HE.out.2]
    refine ⟨_, rfl, HB4.out, ?_⟩
    rw [List.length_set]
    exact HO4.out
end
section
open Go.ChangeShapes Go.WideShapes Go.ChangeAt Go.RowKit
attribute [local go_sem ↓] Go.wp_at_zero Go.wp_at_succ
attribute [local go_sem] later_cell later_frozen
set_option maxRecDepth 100000
set_option linter.unusedVariables false
set_option maxHeartbeats 4000000 in
theorem of23_b (x : ByteArray) (w : World) (hs : x.size ≤ 60000) : Calls Tryd.prog 21 #[.string x] w (OfPB w x) := by
  have hb0 : Below w.heap.size w (w.alloc (.cells #[.pointer none] 42)) := bl_alloc (bl_refl w) _
  have hD := rst_dnew (rst_start (w.alloc (.cells #[.pointer none] 42))) [8] #[.int .u32 8] rfl (by decide) (by decide) 1 rfl
  rw [show (w.alloc (.cells #[.pointer none] 42)).heap.size = w.heap.size + 1 from by simp] at hD
  have HD := hide hD
  clear hD
  have hh0 := heap_alloc_new w (.cells #[.pointer none] 42)
  have hlt0 : w.heap.size < (w.alloc (.cells #[.pointer none] 42)).heap.size := by simp
  go_enter Tryd.func21, Tryd.ntmps21
  go_wp2_with fail
  refine HD.out.mono ?_
  rintro e w1 ⟨d, g, rfl, hR, _⟩
  have HN := hide (rst_new1 hR (d := d) (g := g) (by simp) x (by omega))
  clear hR HD
  go_wp2_with fail
  refine HN.out.mono ?_
  rintro e w2 ⟨r, t, rfl, _, htx, hR⟩
  have hne : w.heap.size ∉ RR [(d, g)] [(r, d, t)] := fun hm => by have := (hR.rsv _ hm).1; simp at this; omega
  have hoff : w.heap.size ∉ bks (trs [(r, d, t)]) := fun hm => by have := hR.src _ hm; simp at this; omega
  have hh2 : w2.heap[w.heap.size]? = some (.cells #[.pointer none] 42) := (hR.bel.block _ hlt0).trans hh0
  have HR := hide (hR.base hb0)
  have HT := hide htx
  have HNE := hide hne
  have HOF := hide hoff
  clear hR htx HN hne hoff hb0 hh0 hlt0
  go_wp2_with fail
  refine (lnOf_any _ ⟨_, rfl⟩ _).mono ?_
  rintro e w3 ⟨rfl, hb3⟩
  have hh3 := heap_later hb3 hh2
  have HR := hide (HR.out.bl hb3)
  have hc3 : w3.cell? ⟨w.heap.size, 0, none⟩ = some (.pointer none) := by rw [Lib.cell_of_heap hh3]; rfl
  have hf3 : w3.frozen? ⟨w.heap.size, 0, none⟩ = false := by simp [World.frozen?, hh3]
  clear hh2 hh3 hb3
  go_wp2
  have hR2 := HR.out.setO (Nat.le_refl _) HNE.out HOF.out 0 (.pointer (some ⟨r, 0, none⟩))
  refine bodyPost_ret (v := .tuple #[.agg #[.pointer (some ⟨r, 0, none⟩)], .bool true]) (by simp [results, Tryd.results21, go_sem, hc3]) rfl ⟨r, rfl, rst_ln hR2 (d := d) (t := t) (by simp) HT.out, hR2.bel, fun B o u hB => rst_ln (hR2.setOld hB o u) (d := d) (t := t) (by simp) HT.out⟩
end
section
open Go.ChangeShapes Go.WideShapes Go.ChangeAt Go.RowKit
open SpanM SetM
attribute [local go_sem ↓] Go.wp_at_zero Go.wp_at_succ
attribute [local go_sem] later_cell later_frozen
set_option maxRecDepth 100000
set_option linter.unusedVariables false
def xA : ByteArray := ⟨#[97, 98, 32, 99, 100]⟩
def pA : ByteArray := ⟨#[47, 97, 47, 98, 46, 99, 46, 103, 111]⟩
def kA : ByteArray := ⟨#[84, 77, 95, 70, 73, 76, 69, 80, 65, 84, 72]⟩
def wA : ByteArray := ⟨#[99, 100]⟩
theorem a_facts : atV xA.data.toList 4 = 0 ∧ lnSv xA.data.toList 0 = 0 ∧ lnEv xA.data.toList 0 = 5 ∧ lnC xA.data.toList 0 = 0 := by decide +kernel
theorem a_line : xA.extract 0 5 = xA := by decide +kernel
theorem a_word : wrdF xA 4 = wA := by decide +kernel
theorem a_path : getV kA [(kA, pA)] = pA ∧ getB kA [(kA, pA)] = true := by decide +kernel
theorem rwat_one (w : World) (a b : ByteArray) : RwAt (w.alloc (.cells #[.string a, .string b] 46)) (.slice (some ⟨w.heap.size, 0, none⟩) 1 1) [(a, b)] := by
  refine .inr ⟨⟨w.heap.size, 0, none⟩, 1, rfl, Nat.le_refl _, by decide, fun i hi => ?_⟩
  obtain rfl : i = 0 := by simpa using hi
  exact ⟨cells_lit w #[.string a, .string b] _ 0 _ rfl, cells_lit w #[.string a, .string b] _ 1 _ rfl⟩
def RA : List Rw := plAll xA 4 4 xA wA 0 true pA ++ [(kA, pA)]
def nW : ByteArray := ⟨#[84, 77, 95, 67, 85, 82, 82, 69, 78, 84, 95, 87, 79, 82, 68]⟩
def nB : ByteArray := ⟨#[84, 77, 95, 70, 73, 76, 69, 78, 65, 77, 69, 95, 66, 65, 83, 69]⟩
theorem ra_word : getV nW RA = wA ∧ getB nW RA = true := by unfold RA plAll; generalize itoaS 0 = i0; generalize itoaS (0 + 1) = i1; constructor <;> kernel_rfl
theorem ra_base : getV nB RA = ⟨#[98, 46, 99]⟩ ∧ getB nB RA = true := by unfold RA plAll; generalize itoaS 0 = i0; generalize itoaS (0 + 1) = i1; constructor <;> kernel_rfl
set_option maxHeartbeats 2000000 in
theorem known_uuid (w : World) : Calls Tryd.prog 17 #[.string ⟨#[85, 85, 73, 68]⟩] w fun e w' => e = .returned (.bool true) ∧ w = w' := by
  go_enter Tryd.func17, Tryd.ntmps17
  go_wp2
  go_ret
  exact ⟨rfl, rfl⟩
set_option maxHeartbeats 8000000 in
theorem awake23_any (w : World) : Calls Tryd.prog 11 #[] w fun e w' => e = .returned (.bool true) ∧ Below w.heap.size w w' := by
  have HO := hide (of23_b xA w (by decide))
  obtain ⟨f1, f2, f3, f4⟩ := a_facts
  have hP := fun (W : World) (r : Nat) (v0 : Value) (h : LnAt W r xA) (he : RwAt W v0 [(kA, pA)]) => place_any h (by decide) 4 4 4 4 0 0 5 4 v0 [(kA, pA)] he (by decide) (by decide) (by decide) (by decide) f1 f2 f3 (by decide) (by decide) (by decide) (by decide) xA wA pA true a_line a_word a_path.1 a_path.2 (by decide) (it_small W 0 (by decide)) (it_small W 1 (by decide)) f4
  have HP := hide (show ∀ (W : World) (r : Nat) (v0 : Value) (h : LnAt W r xA) (he : RwAt W v0 [(kA, pA)]), Calls Tryd.prog 22 #[.agg #[.pointer (some ⟨r, 0, none⟩)], .agg #[.int .i64 4, .int .i64 4], v0] W (VPost W RA) from hP)
  have hl : RA.length ≤ 1000 := by
    have : RA.length = 8 := by unfold RA plAll; generalize itoaS 0 = i0; generalize itoaS (0 + 1) = i1; kernel_rfl
    omega
  have HG1 := hide (fun (W : World) (v : Value) (h : RwAt W v RA) => get_any v RA nW ⟨#[99, 100]⟩ true W h hl ra_word.1 ra_word.2)
  have HG2 := hide (fun (W : World) (v : Value) (h : RwAt W v RA) => get_any v RA nB ⟨#[98, 46, 99]⟩ true W h hl ra_base.1 ra_base.2)
  clear hP f1 f2 f3 f4 hl
  go_enter Tryd.func11, Tryd.ntmps11
  go_wp2_with fail
  refine HO.out.mono ?_
  rintro e w1 ⟨r, rfl, hL, hb1, _⟩
  have c0 := ln_c0 w1 r
  have hb1 := bl_trans hb1 (ln_b0 w1 r)
  have hbx := bl_alloc (bl_refl (w1.alloc (.cells #[.pointer (some ⟨r, 0, none⟩)] 42))) (.cells #[.string kA, .string pA] 46)
  have HL := hide (hL.bl (bl_trans (ln_b0 w1 r) hbx))
  have HB1 := hide (bl_trans hb1 hbx)
  have HE := hide (rwat_one (w1.alloc (.cells #[.pointer (some ⟨r, 0, none⟩)] 42)) kA pA)
  have hsz : (w1.alloc (.cells #[.pointer (some ⟨r, 0, none⟩)] 42)).heap.size = w1.heap.size + 1 := by simp
  rw [hsz] at HE
  have HPP := hide (HP.out _ _ _ HL.out HE.out)
  clear hL HO hb1 hbx hsz HP HL HE
  go_wp2_with fail
  refine HPP.out.mono ?_
  rintro e w2 ⟨v2, rfl, hb2, ho2⟩
  have HV := hide (own_rwat ho2)
  have HB2 := hide (bl_trans HB1.out hb2)
  clear ho2 hb2 HB1 HPP
  go_wp2_with fail
  refine (HG1.out _ _ HV.out).mono ?_
  rintro e w3 ⟨rfl, hb3⟩
  have HV3 := hide (rwat_below HV.out hb3)
  have HB3 := hide (bl_trans HB2.out hb3)
  clear hb3 HV HB2
  go_wp2_with fail
  refine (HG2.out _ _ HV3.out).mono ?_
  rintro e w4 ⟨rfl, hb4⟩
  have HB4 := hide (bl_trans HB3.out hb4)
  clear hb4 HV3 HB3
  go_wp2_with fail
  refine (known_uuid _).mono ?_
  rintro e w5 ⟨rfl, hw5⟩
  subst hw5
  go_wp2
  go_ret
  exact ⟨rfl, HB4.out⟩
end
end
section
section
open Go.ChangeShapes Go.WideShapes Go.ChangeAt Go.RowKit
open SpanM SetM
attribute [local go_sem ↓] Go.wp_at_zero Go.wp_at_succ
attribute [local go_sem] later_cell later_frozen
set_option maxRecDepth 100000
set_option linter.unusedVariables false
theorem brk_len (L : List UInt8) (k : Nat) : nBrk (L.take k) ≤ k := by
  induction k with
  | zero => simp [nBrk]
  | succ k ih => have := nBrk_succ L k; omega
theorem brk_nn (L : List UInt8) (k : Nat) : 0 ≤ nBrk (L.take k) := by simp [nBrk]
/-- The line of a place. -/
theorem ln_of (x : ByteArray) (H : Nat) (hH : H ≤ x.size) : ∃ idx S E d : Nat, atV x.data.toList H = idx ∧ lnSv x.data.toList idx = S ∧ lnEv x.data.toList idx = E ∧ S + d = H ∧ H ≤ E ∧ E ≤ x.size ∧ idx ≤ H ∧ lnC x.data.toList idx = 0 := by
  have h0 := brk_nn x.data.toList H
  have h1 := brk_len x.data.toList H
  have h2 := nBrk_take x.data.toList H
  obtain ⟨h3, h4⟩ := off_in x.data.toList H (by exact hH)
  have hm : mayR 0 (H : Int) x.data.toList.length = 0 := by
    have : x.data.toList.length = x.size := rfl
    unfold mayR; rw [if_neg (by omega)]
  obtain ⟨idx, hi⟩ : ∃ idx : Nat, nBrk (x.data.toList.take H) = (idx : Int) := ⟨(nBrk (x.data.toList.take H)).toNat, by omega⟩
  have hc : lnC x.data.toList idx = 0 := by unfold lnC; rw [if_pos (by omega)]
  rw [hi] at h3 h4
  refine ⟨idx, lnS x.data.toList idx, lnE x.data.toList idx, H - lnS x.data.toList idx, ?_, lnSv_in hc, lnEv_in hc, by omega, h4, ?_, by omega, hc⟩
  · rw [atV_in hm, hi]
  · exact lnE_le x.data.toList idx
set_option maxHeartbeats 2000000 in
theorem place_nil (x1 x2 : Int) (v0 : Value) (env : List Rw) (w : World) (he : RwAt w v0 env) : Calls Tryd.prog 22 #[.agg #[.pointer none], .agg #[.int .i64 x1, .int .i64 x2], v0] w fun e w' => e = .returned (.tuple #[.slice none 0 0, .int .i64 1]) ∧ Below w.heap.size w w' := by
  obtain ⟨vA, vc, rfl⟩ := rwat_len he
  clear he
  go_enter Tryd.func22, Tryd.ntmps22
  go_wp2
  go_ret2
  exact ⟨rfl, bl_alloc (bl_alloc (bl_refl w) _) _⟩
set_option maxHeartbeats 4000000 in
theorem place_no {w : World} {r : Nat} {x : ByteArray} (h : LnAt w r x) (x1 x2 : Int) (ho : x1 < 0 ∨ x2 < 0 ∨ (x.size : Int) < x1 ∨ (x.size : Int) < x2) (v0 : Value) (env : List Rw) (he : RwAt w v0 env) : Calls Tryd.prog 22 #[.agg #[.pointer (some ⟨r, 0, none⟩)], .agg #[.int .i64 x1, .int .i64 x2], v0] w fun e w' => e = .returned (.tuple #[.slice none 0 0, .int .i64 3]) ∧ Below w.heap.size w w' := by
  obtain ⟨vA, vc, rfl⟩ := rwat_len he
  obtain ⟨p, hp⟩ : ∃ p, min x1 x2 = p := ⟨_, rfl⟩
  obtain ⟨q, hq⟩ : ∃ q, max x1 x2 = q := ⟨_, rfl⟩
  have HSP := hide (fun W => spanV x1 x2 p q hp hq W)
  have hm0 : mayB (p, q) x.size = false := decide_eq_false (by dsimp only; omega)
  have HMAY := hide (fun W => (show Calls Tryd.prog 38 #[.agg #[.int .i64 p, .int .i64 q], .int .i64 x.size] W fun e w' => e = .returned (.bool false) ∧ Below W.heap.size W w' from by
    have := may_any (p, q) x.size W
    rwa [hm0] at this))
  have HLEN := hide (fun W (hb : Below w.heap.size w W) => ln_len (h.bl hb))
  clear he hp hq hm0 ho
  go_enter Tryd.func22, Tryd.ntmps22
  go_wp2_with fail
  (with_reducible refine (HSP.out _).mono ?_)
  rintro e w1 ⟨rfl, hb1⟩
  have hb00 := bl_alloc (bl_alloc (bl_refl w) (.cells #[.pointer (some ⟨r, 0, none⟩)] 42)) (.cells #[.int .i64 x1, .int .i64 x2] 39)
  have c3 : ((w.alloc (.cells #[.pointer (some ⟨r, 0, none⟩)] 42)).alloc (.cells #[.int .i64 x1, .int .i64 x2] 39)).cell? ⟨w.heap.size, 0, none⟩ = some (.pointer (some ⟨r, 0, none⟩)) := by go_simp
  replace c3 := cell_later hb1 c3
  have hb01 := bl_trans hb00 hb1
  have hb02 := bl_trans hb01 (bl_alloc (bl_refl w1) (.cells #[.int .i64 p, .int .i64 q] 71))
  have hb11 := bl_alloc (bl_refl w1) (.cells #[.int .i64 p, .int .i64 q] 71)
  have c81 : (w1.alloc (.cells #[.int .i64 p, .int .i64 q] 71)).cell? ⟨w1.heap.size, 0, none⟩ = some (.int .i64 p) := by go_simp
  have c82 : (w1.alloc (.cells #[.int .i64 p, .int .i64 q] 71)).cell? ⟨w1.heap.size, 1, none⟩ = some (.int .i64 q) := by go_simp
  replace c3 := cell_later hb11 c3
  have HB02 := hide hb02
  clear hb00 hb01 hb02 hb1 hb11
  go_wp2
  generalize (w1.alloc (.cells #[.int .i64 p, .int .i64 q] 71)) = w2 at *
  have n1 := World.block_lt_of_cell? _ _ c3
  have n2 := World.block_lt_of_cell? _ _ c81
  refine wp_region_later (by kernel_rfl) (by kernel_rfl) ?_
  repeat (go_big_quiet_step (first
    | (go_at_call 39; exact later_call_same (HLEN.out _ (bl_trans HB02.out (Later.below _))))
    | (go_at_call 38; exact later_call (HMAY.out _))
    | exact rfl))
  refine wpQuiet_nil ?_
  rintro w9 ⟨⟨_, hb9⟩, rfl⟩
  have HB9 := hide (bl_trans HB02.out hb9)
  clear hb9 c3 c81 c82 n1 n2
  go_wp2
  go_ret2
  exact ⟨rfl, HB9.out⟩
end
section
open Go.ChangeShapes Go.WideShapes Go.ChangeAt Go.RowKit
open SpanM SetM
set_option maxRecDepth 100000
theorem pow_data : (Rows.laid_internal_strconv_uint64pow10 : DataW Unit) = Go.Lib.tabData .u64 Go.Lib.pow10Tab := by kernel_rfl
theorem pow_tab {W : World} (h : laidMetH Tryd.prog [("math/bits.deBruijn32tab", Rows.laid_math_bits_deBruijn32tab), ("math/bits.deBruijn64tab", Rows.laid_math_bits_deBruijn64tab), ("internal/strconv.uint64pow10", Rows.laid_internal_strconv_uint64pow10)] W) : Go.Lib.TabIs Tryd.prog W "internal/strconv.uint64pow10" .u64 Go.Lib.pow10Tab := by
  rw [MakeChecks.laidMetH_plain _ _ _ (by kernel_rfl), pow_data] at h
  obtain ⟨ps, ⟨g0, t0, cs0, f0, p0, q0, hg0, ht0, hv0, hd0, ⟨g1, t1, cs1, f1, p1, q1, hg1, ht1, hv1, hd1, ⟨g2, t2, cs2, f2, p2, q2, hg2, ht2, hv2, hd2, _, _⟩, _⟩, _⟩, _⟩ := h
  have hg : Tryd.prog.globalNamed "internal/strconv.uint64pow10" = some 1 := by kernel_rfl
  have hty : (Tryd.prog.globals[1]?).map (·.type) = some 139 := by kernel_rfl
  obtain rfl := Option.some.inj (hg.symm.trans hg2)
  obtain rfl := Option.some.inj (hty.symm.trans ht2)
  unfold Go.Lib.TabIs
  rw [hv2, ← Go.Lib.cells_of_tab Tryd.underlying139 Tryd.underlying132 (by kernel_rfl) (by kernel_rfl) hd2]
theorem tab_bl {w w' : World} {name : String} {k : IntKind} {zs : List Int} (h : Go.Lib.TabIs Tryd.prog w name k zs) (hb : Below w.heap.size w w') : Go.Lib.TabIs Tryd.prog w' name k zs := by
  unfold Go.Lib.TabIs World.var? at *
  cases hg : Tryd.prog.globalNamed name with
  | none => simp [hg] at h
  | some g =>
    simp only [hg] at h
    simp only [Option.bind_some] at h ⊢
    cases hh : w.heap[g]? with
    | none => rw [hh] at h; exact absurd h (by simp)
    | some o =>
      rw [hb.block g (Array.getElem?_eq_some_iff.1 hh).1, hh]
      rw [hh] at h
      exact h
theorem it_tab {w : World} (hT : Go.Lib.TabIs Tryd.prog w "internal/strconv.uint64pow10" .u64 Go.Lib.pow10Tab) (i : Nat) (h : i < 1000000) : ItOK w i := fun W hb => by
  refine (Any.strconv_Itoa itoaM (i : Int) (by omega) (by omega) W (tab_bl hT hb)).mono ?_
  rintro e w' ⟨rfl, k, os, rfl⟩
  refine ⟨?_, Go.Lib.below_grow _ _ (Nat.le_refl _) k os⟩
  unfold itoaS Go.Lib.itoa
  rw [if_neg (by omega), Int.toNat_natCast]
end
section
open Go.ChangeShapes Go.WideShapes Go.ChangeAt Go.RowKit
open SpanM SetM
set_option maxRecDepth 100000
set_option linter.unusedVariables false
theorem dnW_uniq (p : Nat → Bool) (k a : Nat) (h1 : a ≤ k) (h2 : ∀ j, a ≤ j → j < k → p j = true) (h3 : ∀ j, j + 1 = a → p j = false) : dnW p k = a := by
  obtain ⟨g1, g2, g3⟩ := dnW_at p k
  rcases Nat.lt_trichotomy (dnW p k) a with h | h | h
  · have e1 := g2 (a - 1) (by omega) (by omega)
    have e2 := h3 (a - 1) (by omega)
    rw [e1] at e2; cases e2
  · exact h
  · have e1 := h2 (dnW p k - 1) (by omega) (by omega)
    have e2 := g3 (dnW p k - 1) (by omega)
    rw [e1] at e2; cases e2
theorem wd_brk (L : List UInt8) (k : Nat) (c : UInt8) (r : List UInt8) (h : L.drop k = c :: r) (hc : c.toNat = 10) : wdP L k = false := by
  have hk : L[k]? = some c := by
    have := congrArg (·[0]?) h
    simpa using this
  unfold wdP
  rw [hk]
  show wordC c = false
  unfold wordC
  exact decide_eq_false (by omega)
/-- A line's ends are no word bytes. -/
theorem ln_ends (x : ByteArray) (idx S E H : Nat) (h2 : lnSv x.data.toList idx = S) (h3 : lnEv x.data.toList idx = E) (hc : lnC x.data.toList idx = 0) (hSH : S ≤ H) (hH : H ≤ x.size) :
    (S = 0 ∨ wdP x.data.toList (S - 1) = false) ∧ (E = x.size ∨ wdP x.data.toList E = false) := by
  rw [lnSv_in hc] at h2
  rw [lnEv_in hc] at h3
  have hxl : x.data.toList.length = x.size := rfl
  have eS : lnS x.data.toList idx = S := by omega
  have eE : lnE x.data.toList idx = E := by omega
  constructor
  · rcases Nat.eq_zero_or_pos idx with h0 | h0
    · left
      rw [← eS]; unfold lnS; rw [if_pos (by omega)]
    · right
      obtain ⟨m, hm⟩ : ∃ m : Nat, m + 1 = idx := ⟨idx - 1, by omega⟩
      have hn := lnS_next x.data.toList (m : Int) (by omega)
      rw [show (m : Int) + 1 = (idx : Int) by omega, eS] at hn
      rcases lnE_next x.data.toList (m : Int) (by omega) with h | ⟨c, r, h, hc10⟩
      · omega
      · rw [show S - 1 = lnE x.data.toList (m : Int) by omega]
        exact wd_brk _ _ c r h hc10
  · rcases lnE_next x.data.toList (idx : Int) (by omega) with h | ⟨c, r, h, hc10⟩
    · left; omega
    · right
      rw [← eE]
      exact wd_brk _ _ c r h hc10
theorem wd_line (x : ByteArray) (S E j : Nat) (hE : E ≤ x.size) (hj : S + j < E) : wdP (x.extract S E).data.toList j = wdP x.data.toList (S + j) := by
  have hxl : x.data.toList.length = x.size := rfl
  have hl : (x.extract S E).data.toList = (x.data.toList.take E).drop S := by
    rw [ByteArray.data_extract]
    simp only [Array.toList_extract, List.extract_eq_take_drop]
    rw [List.drop_take]
  unfold wdP
  rw [hl, List.getElem?_drop, List.getElem?_take_of_lt (by omega)]
/-- The word at a place of a line is the word at that place of the text. -/
theorem word_line (x : ByteArray) (S E d H : Nat) (hd : S + d = H) (hHE : H ≤ E) (hE : E ≤ x.size) (e1 : S = 0 ∨ wdP x.data.toList (S - 1) = false) (e2 : E = x.size ∨ wdP x.data.toList E = false) :
    wrdF (x.extract S E) d = x.extract (dnW (wdP x.data.toList) H) (upW (wdP x.data.toList) x.size H) ∧ S ≤ dnW (wdP x.data.toList) H ∧ upW (wdP x.data.toList) x.size H ≤ E := by
  obtain ⟨a1, a2, a3⟩ := dnW_at (wdP x.data.toList) H
  obtain ⟨b1, b2, b3, b4⟩ := upW_at (wdP x.data.toList) x.size H
  have b2 := b2 (by omega)
  have hS : S ≤ dnW (wdP x.data.toList) H := by
    rcases e1 with e1 | e1
    · omega
    · rcases Nat.lt_or_ge (dnW (wdP x.data.toList) H) S with h | h
      · have := a2 (S - 1) (by omega) (by omega)
        rw [e1] at this; cases this
      · exact h
  have hB : upW (wdP x.data.toList) x.size H ≤ E := by
    rcases e2 with e2 | e2
    · omega
    · rcases Nat.lt_or_ge E (upW (wdP x.data.toList) x.size H) with h | h
      · have := b3 E (by omega) h
        rw [e2] at this; cases this
      · exact h
  refine ⟨?_, hS, hB⟩
  have hsz : (x.extract S E).size = E - S := by rw [ByteArray.size_extract]; omega
  have eA : dnW (wdP (x.extract S E).data.toList) d = dnW (wdP x.data.toList) H - S := by
    refine dnW_uniq _ _ _ (by omega) (fun j hj1 hj2 => ?_) (fun j hj => ?_)
    · rw [wd_line x S E j hE (by omega)]
      exact a2 (S + j) (by omega) (by omega)
    · rw [wd_line x S E j hE (by omega)]
      exact a3 (S + j) (by omega)
  have eB : upW (wdP (x.extract S E).data.toList) (E - S) d = upW (wdP x.data.toList) x.size H - S := by
    refine upW_uniq _ _ _ _ (by omega) (fun j hj1 hj2 => ?_) (fun hj => ?_) (by omega)
    · rw [wd_line x S E j hE (by omega)]
      exact b3 (S + j) (by omega) (by omega)
    · rw [wd_line x S E _ hE (by omega), show S + (upW (wdP x.data.toList) x.size H - S) = upW (wdP x.data.toList) x.size H by omega]
      rcases Nat.lt_or_ge (upW (wdP x.data.toList) x.size H) x.size with h | h
      · exact b4 h
      · omega
  unfold wrdF
  rw [hsz, eA, eB]
  apply ByteArray.ext
  rw [ByteArray.data_extract, ByteArray.data_extract, ByteArray.data_extract, Array.extract_extract]
  congr 1 <;> omega
def nWd : ByteArray := ⟨#[84, 77, 95, 67, 85, 82, 82, 69, 78, 84, 95, 87, 79, 82, 68]⟩
theorem pl_word (x : ByteArray) (p q : Nat) (line wd : ByteArray) (idx : Nat) : getB nWd (plAll x p q line wd idx false ⟨#[]⟩ ++ []) = !wd.toList.isEmpty ∧ getV nWd (plAll x p q line wd idx false ⟨#[]⟩ ++ []) = if wd.toList.isEmpty then ⟨#[]⟩ else wd := by
  unfold plAll plSel plWord plPath
  generalize itoaS idx = i0
  generalize itoaS (idx + 1) = i1
  generalize x.extract p q = y
  cases hw : wd.toList.isEmpty
  · by_cases hp : p < q
    · rw [if_pos hp]; constructor <;> kernel_rfl
    · rw [if_neg hp]; constructor <;> kernel_rfl
  · by_cases hp : p < q
    · rw [if_pos hp]; constructor <;> kernel_rfl
    · rw [if_neg hp]; constructor <;> kernel_rfl
end
end
section
open Go.ChangeShapes Go.WideShapes Go.ChangeAt Go.RowKit
open SpanM SetM
set_option maxRecDepth 100000
set_option linter.unusedVariables false
theorem data_at (x : ByteArray) (j : Nat) (h : j < x.size) : x.data[j]! = x[j] := by
  rw [getElem!_pos x.data j (by exact h)]; rfl
/-- Where the last sign stands, or that there is none. -/
theorem lst_cases (x : ByteArray) (c : Int) : (lstB x c = -1 ∧ ∀ j (h : j < x.size), (x[j].toNat : Int) ≠ c) ∨ ∃ i : Nat, ∃ h : i < x.size, lstB x c = i ∧ (x[i].toNat : Int) = c ∧ ∀ j (hj : j < x.size), i < j → (x[j].toNat : Int) ≠ c := by
  rcases Go.Lib.lastIndexByte_spec x c with ⟨h1, h2⟩ | ⟨i, h1, h2, h3, h4⟩
  · exact .inl ⟨h1, fun j h => by rw [← data_at x j h]; exact h2 j h⟩
  · exact .inr ⟨i, h1, h2, by rw [← data_at x i h1]; exact h3, fun j hj hij => by rw [← data_at x j hj]; exact h4 j hij hj⟩
/-- Is a slash among the first n bytes? -/
def slB (x : ByteArray) (n : Nat) : Bool := (x.data.toList.take n).any fun c => (c.toNat : Int) == 47
theorem slB_zero (x : ByteArray) : slB x 0 = false := by simp [slB]
theorem slB_next (x : ByteArray) (n : Nat) (h : n < x.size) : slB x (n + 1) = (slB x n || ((x[n].toNat : Nat) : Int) == 47) := by
  unfold slB
  rw [List.take_succ_eq_append_getElem (by exact h), List.any_append]
  simp
  rfl
theorem slB_no (x : ByteArray) (h : ∀ j (h : j < x.size), (x[j].toNat : Int) ≠ 47) : slB x x.size = false := by
  unfold slB
  rw [List.any_eq_false]
  intro c hc
  obtain ⟨j, hj0, rfl⟩ := List.getElem_of_mem (List.mem_of_mem_take hc)
  have h2 : j < x.size := hj0
  show ¬ (((x[j].toNat : Nat) : Int) == 47) = true
  rw [beq_iff_eq]
  exact h j h2
theorem slB_yes (x : ByteArray) (i : Nat) (hi : i < x.size) (h : (x[i].toNat : Int) = 47) : slB x x.size = true := by
  unfold slB
  rw [List.take_of_length_le (by exact Nat.le_refl _), List.any_eq_true]
  exact ⟨x.data.toList[i]'(by exact hi), List.getElem_mem _, by show (((x[i].toNat : Nat) : Int) == 47) = true; exact beq_iff_eq.2 h⟩
theorem ext_at' (x : ByteArray) (A B i : Nat) (hi : i < (x.extract A B).size) (h2 : A + i < x.size) : (x.extract A B)[i] = x[A + i] := by
  rw [ByteArray.getElem_extract]
theorem base_facts (f : ByteArray) : (basF f).size ≤ f.size ∧ f.extract 0 (basF f).size = basF f ∧ ((basF f).size ≠ 0 ∨ f.size = 0) := by
  unfold basF
  rcases lst_cases f 46 with ⟨h, _⟩ | ⟨i, hi, h, _, _⟩
  · rw [h, if_neg (by omega)]
    exact ⟨Nat.le_refl _, by simp, by omega⟩
  · rw [h]
    by_cases h0 : 0 < i
    · rw [if_pos (by omega), Int.toNat_natCast]
      have hs : (f.extract 0 i).size = i := by rw [ByteArray.size_extract]; omega
      rw [hs]
      exact ⟨by omega, rfl, by omega⟩
    · rw [if_neg (by omega)]
      exact ⟨Nat.le_refl _, by simp, by omega⟩
theorem path_facts (x : ByteArray) : (∀ j (h : j < (cutF x).size), ((cutF x)[j].toNat : Int) ≠ 47) ∧ ((slB x x.size = false ∧ cutD x = ⟨#[]⟩ ∧ cutF x = x) ∨ (slB x x.size = true ∧ cutD x ++ ⟨#[47]⟩ ++ cutF x = x)) := by
  unfold cutF cutD
  rcases lst_cases x 47 with ⟨h, hn⟩ | ⟨i, hi, h, hc, hn⟩
  · rw [h, if_pos (by omega), if_pos (by omega)]
    exact ⟨hn, .inl ⟨slB_no x hn, rfl, rfl⟩⟩
  · rw [h, if_neg (by omega), if_neg (by omega), Int.toNat_natCast]
    refine ⟨fun j hj => ?_, .inr ⟨slB_yes x i hi hc, ?_⟩⟩
    · have hj2 : i + 1 + j < x.size := by rw [ByteArray.size_extract] at hj; omega
      rw [ext_at' x (i + 1) x.size j hj hj2]
      exact hn (i + 1 + j) hj2 (by omega)
    · apply ByteArray.ext
      apply Array.ext'
      rw [ByteArray.toList_data_append, ByteArray.toList_data_append]
      have e1 : (x.extract 0 i).data.toList = x.data.toList.take i := by
        rw [ByteArray.data_extract]
        simp [List.extract_eq_take_drop]
      have e2 : (x.extract (i + 1) x.size).data.toList = x.data.toList.drop (i + 1) := by
        rw [ByteArray.data_extract]
        simp only [Array.toList_extract, List.extract_eq_take_drop]
        exact List.take_of_length_le (by simp)
      have e3 : x.data.toList = x.data.toList.take i ++ x[i] :: x.data.toList.drop (i + 1) := by
        have := List.drop_eq_getElem_cons (l := x.data.toList) (i := i) (by exact hi)
        conv => lhs; rw [← List.take_append_drop i x.data.toList, this]
        rfl
      have e4 : x[i] = 47 := by
        have h1 : x[i].toNat = 47 := by omega
        have := UInt8.toNat_inj (a := x[i]) (b := 47)
        exact this.1 h1
      rw [e1, e2]
      conv => rhs; rw [e3, e4]
      simp
def nLn : ByteArray := ⟨#[84, 77, 95, 67, 85, 82, 82, 69, 78, 84, 95, 76, 73, 78, 69]⟩
def nSe : ByteArray := ⟨#[84, 77, 95, 83, 69, 76, 69, 67, 84, 69, 68, 95, 84, 69, 88, 84]⟩
def nPa : ByteArray := ⟨#[84, 77, 95, 70, 73, 76, 69, 80, 65, 84, 72]⟩
def nFi : ByteArray := ⟨#[84, 77, 95, 70, 73, 76, 69, 78, 65, 77, 69]⟩
def nBa : ByteArray := ⟨#[84, 77, 95, 70, 73, 76, 69, 78, 65, 77, 69, 95, 66, 65, 83, 69]⟩
def nDi : ByteArray := ⟨#[84, 77, 95, 68, 73, 82, 69, 67, 84, 79, 82, 89]⟩
def envA (v p : ByteArray) : List Rw := [(nLn, v), (nSe, v), (nPa, p), (nFi, v)]
theorem env_path (v p : ByteArray) : getV nPa (envA v p) = p ∧ getB nPa (envA v p) = true := by constructor <;> kernel_rfl
theorem pl_gets (x : ByteArray) (k : Nat) (line wd : ByteArray) (idx : Nat) (v p : ByteArray) :
    (getV nLn (plAll x k k line wd idx true p ++ envA v p) = line ∧ getB nLn (plAll x k k line wd idx true p ++ envA v p) = true) ∧
    (getV nSe (plAll x k k line wd idx true p ++ envA v p) = v ∧ getB nSe (plAll x k k line wd idx true p ++ envA v p) = true) ∧
    (getV nDi (plAll x k k line wd idx true p ++ envA v p) = cutD p ∧ getB nDi (plAll x k k line wd idx true p ++ envA v p) = true) ∧
    (getV nFi (plAll x k k line wd idx true p ++ envA v p) = cutF p ∧ getB nFi (plAll x k k line wd idx true p ++ envA v p) = true) ∧
    (getV nBa (plAll x k k line wd idx true p ++ envA v p) = basF (cutF p) ∧ getB nBa (plAll x k k line wd idx true p ++ envA v p) = true) := by
  unfold plAll plSel plWord plPath
  rw [if_neg (show ¬ k < k by omega)]
  generalize itoaS idx = i0
  generalize itoaS (idx + 1) = i1
  generalize basF (cutF p) = y1
  generalize cutF p = y2
  generalize cutD p = y3
  cases hw : wd.toList.isEmpty
  · refine ⟨⟨?_, ?_⟩, ⟨?_, ?_⟩, ⟨?_, ?_⟩, ⟨?_, ?_⟩, ?_, ?_⟩ <;> kernel_rfl
  · refine ⟨⟨?_, ?_⟩, ⟨?_, ?_⟩, ⟨?_, ?_⟩, ⟨?_, ?_⟩, ?_, ?_⟩ <;> kernel_rfl
theorem pl_short (x : ByteArray) (k : Nat) (line wd : ByteArray) (idx : Nat) (v p : ByteArray) : (plAll x k k line wd idx true p ++ envA v p).length ≤ 1000 := by
  unfold plAll plSel plWord plPath envA
  rw [if_neg (show ¬ k < k by omega)]
  split <;> simp
theorem rwat_four (w : World) (v p : ByteArray) : RwAt (w.alloc (.cells #[.string nLn, .string v, .string nSe, .string v, .string nPa, .string p, .string nFi, .string v] 46)) (.slice (some ⟨w.heap.size, 0, none⟩) 4 4) (envA v p) := by
  refine .inr ⟨⟨w.heap.size, 0, none⟩, 4, rfl, Nat.le_refl _, by decide, fun i hi => ?_⟩
  have h4 : i < 4 := hi
  have key : ∀ (j : Nat) (u : Value), (#[.string nLn, .string v, .string nSe, .string v, .string nPa, .string p, .string nFi, .string v] : Array Value).toList[j]? = some u → (w.alloc (.cells #[.string nLn, .string v, .string nSe, .string v, .string nPa, .string p, .string nFi, .string v] 46)).cell? ((⟨w.heap.size, 0, none⟩ : Addr).add j) = some u := fun j u h => cells_lit w _ _ j u h
  rcases i with _ | _ | _ | _ | i
  · exact ⟨key 0 _ rfl, key 1 _ rfl⟩
  · exact ⟨key 2 _ rfl, key 3 _ rfl⟩
  · exact ⟨key 4 _ rfl, key 5 _ rfl⟩
  · exact ⟨key 6 _ rfl, key 7 _ rfl⟩
  · omega
end
section
open Go.ChangeShapes Go.WideShapes Go.ChangeAt Go.RowKit
open SpanM SetM
attribute [local go_sem ↓] Go.wp_at_zero Go.wp_at_succ
set_option maxRecDepth 100000
set_option linter.unusedVariables false
theorem rlet_m (n : Int) (h0 : 0 ≤ n) (h1 : n < 256) (w : World) : Calls Tryd.prog 59 #[.int .u8 n] w fun e w' => e = .returned (.bool (letZ n)) ∧ w = w' := by
  unfold letZ uppZ lowZ
  rcases hb1 : decide (65 ≤ n) with _ | _ <;> rcases hb2 : decide (n ≤ 90) with _ | _ <;> rcases hb3 : decide (97 ≤ n) with _ | _ <;> rcases hb4 : decide (n ≤ 122) with _ | _
  all_goals
    go_enter Tryd.func59, Tryd.ntmps59
    go_wp2
    go_ret
    exact ⟨rfl, rfl⟩
theorem rdig_m (n : Int) (h0 : 0 ≤ n) (h1 : n < 256) (w : World) : Calls Tryd.prog 60 #[.int .u8 n] w fun e w' => e = .returned (.bool (digZ n)) ∧ w = w' := by
  unfold digZ
  rcases hb1 : decide (48 ≤ n) with _ | _ <;> rcases hb2 : decide (n ≤ 57) with _ | _
  all_goals
    go_enter Tryd.func60, Tryd.ntmps60
    go_wp2
    go_ret
    exact ⟨rfl, rfl⟩
def okN (x : ByteArray) (j : Nat) (c : Int) : Bool := letZ c || (c == 95 || (!(j == 0) && digZ c))
theorem dig_nl (c : Int) (h : digZ c = true) : letZ c = false ∧ (c == 95) = false := by
  unfold digZ at h
  unfold letZ uppZ lowZ
  simp at h ⊢
  omega
theorem nameB_iff (x : ByteArray) : nameB x = true ↔ 0 < x.size ∧ x.size ≤ 64 ∧ ∀ j (h : j < x.size), okN x j (x[j].toNat : Int) = true := by
  unfold nameB
  constructor
  · intro h
    simp only [Bool.and_eq_true, decide_eq_true_eq, Bool.not_eq_true', List.all_eq_true] at h
    obtain ⟨⟨⟨h1, h2⟩, h3⟩, h4⟩ := h
    refine ⟨h1, h2, fun j hj => ?_⟩
    have h5 : namZ ((x[j].toNat : Nat) : Int) = true := h4 x[j] (List.getElem_mem (l := x.data.toList) (by exact hj))
    rw [get_l x 0 h1] at h3
    unfold namZ at h5
    unfold okN
    rcases Nat.eq_zero_or_pos j with h0 | h0
    · subst h0
      rw [h3] at h5
      simpa using h5
    · rw [show (j == 0) = false from beq_eq_false_iff_ne.2 (by omega)]
      simp only [Bool.or_eq_true, Bool.not_false, Bool.true_and] at h5 ⊢
      rcases h5 with h5 | h5 | h5
      · exact .inl h5
      · exact .inr (.inr h5)
      · exact .inr (.inl h5)
  · rintro ⟨h1, h2, h3⟩
    simp only [Bool.and_eq_true, decide_eq_true_eq, Bool.not_eq_true', List.all_eq_true]
    refine ⟨⟨⟨h1, h2⟩, ?_⟩, ?_⟩
    · rw [get_l x 0 h1]
      have h5 := h3 0 h1
      cases hd : digZ ((x[0].toNat : Nat) : Int)
      · rfl
      · obtain ⟨h6, h7⟩ := dig_nl _ hd
        unfold okN at h5
        rw [h6, h7] at h5
        simp at h5
    · intro c hc
      obtain ⟨j, hj, rfl⟩ := List.getElem_of_mem hc
      have h5 := h3 j hj
      unfold okN at h5
      unfold namZ
      show (letZ ((x[j].toNat : Nat) : Int) || (digZ ((x[j].toNat : Nat) : Int) || ((x[j].toNat : Nat) : Int) == 95)) = true
      simp only [Bool.or_eq_true, Bool.and_eq_true] at h5 ⊢
      rcases h5 with h5 | h5 | h5
      · exact .inl h5
      · exact .inr (.inr h5)
      · exact .inr (.inl h5.2)
theorem nameB_no (x : ByteArray) (h : ¬ (0 < x.size ∧ x.size ≤ 64 ∧ ∀ j (h : j < x.size), okN x j (x[j].toNat : Int) = true)) : nameB x = false := by
  cases hb : nameB x
  · rfl
  · exact absurd ((nameB_iff x).1 hb) h
set_option maxHeartbeats 8000000 in
theorem rname_any (x : ByteArray) (hx : x.size ≤ 1000000) (b : Bool) (hb : nameB x = b) (w : World) : Calls Tryd.prog 33 #[.string x] w fun e w' => e = .returned (.bool b) ∧ w = w' := by
  by_cases h0 : x.size = 0
  · have hb2 := (nameB_no x (fun h => by omega)).symm.trans hb
    subst hb2
    have g0 : ((x.size : Int) == 0) = true := beq_iff_eq.2 (by omega)
    have g0' : (x.size == 0) = true := beq_iff_eq.2 h0
    clear hb h0
    go_enter Tryd.func33, Tryd.ntmps33
    go_wp2
    go_ret
    exact ⟨rfl, rfl⟩
  have g0 : ((x.size : Int) == 0) = false := beq_eq_false_iff_ne.2 (by omega)
  have g0' : (x.size == 0) = false := beq_eq_false_iff_ne.2 h0
  by_cases h64 : 64 < x.size
  · have hb2 := (nameB_no x (fun h => by omega)).symm.trans hb
    subst hb2
    have g1 : decide ((64 : Int) < (x.size : Int)) = true := decide_eq_true (by omega)
    have g1' : decide (64 < x.size) = true := decide_eq_true h64
    clear hb h0 h64
    go_enter Tryd.func33, Tryd.ntmps33
    go_wp2
    go_ret
    exact ⟨rfl, rfl⟩
  have g1 : decide ((64 : Int) < (x.size : Int)) = false := decide_eq_false (by omega)
  have g1' : decide (64 < x.size) = false := decide_eq_false h64
  have HB := hide hb
  have H64 := hide (And.intro h0 h64)
  clear hb h0 h64
  go_enter Tryd.func33, Tryd.ntmps33
  go_wp2
  clear g0 g0' g1 g1'
  go_loopw [3] (fun i wr => ∃ k : Nat, i = .int .i64 k ∧ k ≤ x.size ∧ Hid (∀ j (hj : j < x.size), j < k → okN x j (x[j].toNat : Int) = true) ∧ w = wr) (fun i _ => x.size - (intOf i).toNat)
  case atStart => exact ⟨0, rfl, Nat.zero_le _, hide (fun j _ h => by omega), rfl⟩
  case round =>
    obtain ⟨k, rfl, hk, HA, rfl⟩ := hrel
    by_cases hlt : k < x.size
    · have gl : decide (k < x.size) = true := decide_eq_true hlt
      have gl' : decide ((k : Int) < (x.size : Int)) = true := decide_eq_true (by omega)
      have HL := hide (fun W => rlet_m ((x[k].toNat : Nat) : Int) (u8_lt _).1 (u8_lt _).2 W)
      have HD := hide (fun W => rdig_m ((x[k].toNat : Nat) : Int) (u8_lt _).1 (u8_lt _).2 W)
      have HOK := hide (fun (ho : okN x k ((x[k].toNat : Nat) : Int) = true) => show ∀ j (hj : j < x.size), j < k + 1 → okN x j (x[j].toNat : Int) = true from fun j hj h => by
        rcases Nat.eq_or_lt_of_le (Nat.le_of_lt_succ h) with h1 | h1
        · subst h1; exact ho
        · exact HA.out j hj h1)
      have HNO := hide (fun (ho : okN x k ((x[k].toNat : Nat) : Int) = false) => show b = false from (HB.out.symm.trans (nameB_no x (fun h => by rw [h.2.2 k hlt] at ho; cases ho))))
      clear HA
      rcases h95 : (((x[k].toNat : Nat) : Int) == 95) with _ | _ <;> rcases hl : letZ ((x[k].toNat : Nat) : Int) with _ | _ <;> rcases hd : digZ ((x[k].toNat : Nat) : Int) with _ | _ <;> rcases hk0 : (k == 0) with _ | _
      all_goals
        have hok : okN x k ((x[k].toNat : Nat) : Int) = (letZ ((x[k].toNat : Nat) : Int) || ((((x[k].toNat : Nat) : Int) == 95) || (!(k == 0) && digZ ((x[k].toNat : Nat) : Int)))) := rfl
        rw [h95, hl, hd, hk0] at hok
        rw [hl] at HL
        rw [hd] at HD
        have g95 : (((x[k].toNat : Nat) : Int) != 95) = !(((x[k].toNat : Nat) : Int) == 95) := rfl
        rw [h95] at g95
        have gk0 : ((k : Int) == 0) = (k == 0) := by rw [Bool.eq_iff_iff, beq_iff_eq, beq_iff_eq]; omega
        rw [hk0] at gk0
        clear hl hd
        first
          | (have HN := hide (HNO.out hok)
             clear hok HNO HOK
             go_wp2_with (first | (go_at_call 59; refine (HL.out _).mono ?_; rintro e w1 ⟨rfl, hw1⟩; subst hw1) | (go_at_call 60; refine (HD.out _).mono ?_; rintro e w1 ⟨rfl, hw1⟩; subst hw1))
             go_ret
             exact ⟨by rw [HN.out]; rfl, by first | rfl | trivial⟩)
          | (have HN := hide (HOK.out hok)
             clear hok HNO HOK
             go_wp2_with (first | (go_at_call 59; refine (HL.out _).mono ?_; rintro e w1 ⟨rfl, hw1⟩; subst hw1) | (go_at_call 60; refine (HD.out _).mono ?_; rintro e w1 ⟨rfl, hw1⟩; subst hw1))
             refine ⟨?_, by first | (simp [intOf]; done) | (simp [intOf]; omega)⟩
             first
               | exact ⟨k + 1, by go_num, by omega, HN, by first | rfl | trivial⟩
               | ((repeat apply Exists.intro); exact ⟨⟨k + 1, by go_num, by omega, HN, by first | rfl | trivial⟩, rfl⟩))
    · obtain rfl : k = x.size := by omega
      have gl : decide (x.size < x.size) = false := by simp
      have hb2 := HB.out.symm.trans ((nameB_iff x).2 ⟨by have := H64.out.1; omega, by have := H64.out.2; omega, fun j hj => HA.out j hj hj⟩)
      subst hb2
      clear HA HB H64 hlt
      go_wp2
      go_ret
      exact ⟨rfl, by first | rfl | trivial⟩
def KL : List (List UInt8) := [[84, 77, 95, 83, 69, 76, 69, 67, 84, 69, 68, 95, 84, 69, 88, 84], [84, 77, 95, 67, 85, 82, 82, 69, 78, 84, 95, 76, 73, 78, 69], [84, 77, 95, 67, 85, 82, 82, 69, 78, 84, 95, 87, 79, 82, 68], [84, 77, 95, 76, 73, 78, 69, 95, 73, 78, 68, 69, 88], [84, 77, 95, 76, 73, 78, 69, 95, 78, 85, 77, 66, 69, 82], [84, 77, 95, 70, 73, 76, 69, 78, 65, 77, 69], [84, 77, 95, 70, 73, 76, 69, 78, 65, 77, 69, 95, 66, 65, 83, 69], [84, 77, 95, 68, 73, 82, 69, 67, 84, 79, 82, 89], [84, 77, 95, 70, 73, 76, 69, 80, 65, 84, 72], [67, 76, 73, 80, 66, 79, 65, 82, 68], [87, 79, 82, 75, 83, 80, 65, 67, 69, 95, 78, 65, 77, 69], [82, 65, 78, 68, 79, 77], [82, 65, 78, 68, 79, 77, 95, 72, 69, 88], [85, 85, 73, 68], [67, 85, 82, 82, 69, 78, 84, 95, 89, 69, 65, 82], [67, 85, 82, 82, 69, 78, 84, 95, 77, 79, 78, 84, 72], [67, 85, 82, 82, 69, 78, 84, 95, 68, 65, 84, 69], [67, 85, 82, 82, 69, 78, 84, 95, 72, 79, 85, 82], [67, 85, 82, 82, 69, 78, 84, 95, 77, 73, 78, 85, 84, 69], [67, 85, 82, 82, 69, 78, 84, 95, 83, 69, 67, 79, 78, 68], [73, 78, 68, 69, 78, 84]]
def knB (nm : ByteArray) : Bool := KL.any fun L => nm.toList == L
set_option maxHeartbeats 8000000 in
theorem known_any (nm : ByteArray) (w : World) : Calls Tryd.prog 17 #[.string nm] w fun e w' => e = .returned (.bool (knB nm)) ∧ w = w' := by
  obtain ⟨b, hb⟩ : ∃ b, knB nm = b := ⟨_, rfl⟩
  rw [hb]
  have HB := hide hb
  clear hb
  go_enter Tryd.func17, Tryd.ntmps17
  go_wp2
  all_goals
    go_ret
    refine ⟨ret_bool ?_, rfl⟩
    rw [← HB.out]
    unfold knB KL
    simp_all
theorem tl_iff (a b : ByteArray) : a.toList = b.toList ↔ a = b := by
  rw [Go.ByteArray.toList_eq, Go.ByteArray.toList_eq]; exact ⟨ext a b, fun h => by rw [h]⟩
theorem neq_pr (a b : Rw) (w : World) : (binOp .neq 46 (.agg #[.string a.1, .string a.2]) (.agg #[.string b.1, .string b.2])).run Tryd.prog w = .ok (.bool (!decide (a = b))) w := by
  obtain ⟨a1, a2⟩ := a
  obtain ⟨b1, b2⟩ := b
  show (binOp .neq 46 (.agg #[.string a1, .string a2]) (.agg #[.string b1, .string b2])).run Tryd.prog w = .ok (.bool (!decide ((a1, a2) = (b1, b2)))) w
  go_simp
  by_cases h1 : a1 = b1 <;> by_cases h2 : a2 = b2 <;> simp [h1, h2, tl_iff]
theorem eqgn_pr (x y : Operand) (a b : Rw) (w : World) : (eqGuard .neq 46 x y (.agg #[.string a.1, .string a.2]) (.agg #[.string b.1, .string b.2])).run Tryd.prog w = .ok () w :=
  run_eqGuard_agg _ _ _ _ _ _ _ (by kernel_rfl)
theorem take_eq_pr {α : Type} (l m : List α) (k : Nat) (h : k < l.length) (g : k < m.length) (e : l.take k = m.take k) (e2 : l[k] = m[k]) : l.take (k + 1) = m.take (k + 1) := by
  rw [List.take_succ_eq_append_getElem h, List.take_succ_eq_append_getElem g, e, e2]
attribute [local go_sem] eqgn_pr
attribute [local go_sem ↓] neq_pr
set_option maxRecDepth 100000 in
set_option maxHeartbeats 1000000 in
theorem pairs_any (v u : Value) (l k : List Rw) (w : World) (h : RwAt w v l) (g : RwAt w u k) (hl : l.length ≤ 1000) (hk : k.length ≤ 1000) :
    Calls Tryd.prog 14 #[v, u] w fun e w' => e = .returned (.bool (decide (l = k))) ∧ ∃ n, w' = w.drewN n := by
  obtain ⟨a, c, rfl⟩ := rwat_len h
  obtain ⟨b, d, rfl⟩ := rwat_len g
  by_cases hlen : l.length = k.length
  · have e1 : ((l.length : Int) != (k.length : Int)) = false := by simp [hlen]
    by_cases hp : 0 < l.length
    · obtain ⟨b1, o1, c1, hv1, hc1, hm1, _, hcell1⟩ := rwat_some h hp
      obtain ⟨b2, o2, c2, hv2, hc2, hm2, _, hcell2⟩ := rwat_some g (by omega)
      injection hv1 with hv1 _ hv1c
      injection hv2 with hv2 _ hv2c
      subst hv1 hv2 hv1c hv2c
      unfold maxLen at hm1 hm2
      clear h g hp
      obtain ⟨r, hr⟩ : ∃ r, decide (l = k) = r := ⟨_, rfl⟩
      rw [hr]
      have HRR := hide hr.symm
      clear hr
      have HL := hide hlen
      have hlen' : l.length ≤ k.length := by omega
      clear hlen
      go_enter Tryd.func14, Tryd.ntmps14
      go_wp2
      go_loopw [5] (fun i wr => ∃ j n : Nat, j ≤ l.length ∧ i = .int .i64 j ∧ Hid (l.take j = k.take j) ∧ w.drewN n = wr)
        (fun i _ => l.length - (intOf i).toNat)
      case atStart => exact ⟨0, 0, Nat.zero_le _, rfl, hide rfl, rfl⟩
      case round =>
        obtain ⟨j, n, hj, rfl, HT, rfl⟩ := hrel
        by_cases hlt : j < l.length
        · have x1 := hcell1 j hlt
          have x2 := hcell2 j (by omega)
          obtain ⟨x11, x12⟩ := x1
          obtain ⟨x21, x22⟩ := x2
          by_cases he : l[j] = k[j]
          · have hd : (!decide (l[j] = k[j])) = false := by simp [he]
            have HT2 := hide (take_eq_pr l k j hlt (by omega) HT.out he)
            clear he HT
            go_wp2
            go_quiet (fail)
            go_wp2
            refine ⟨?_, by first | (simp [intOf]; done) | (simp [intOf]; omega)⟩
            first
              | exact ⟨j + 1, _, by omega, by go_num, HT2, by first | rfl | trivial⟩
              | ((repeat apply Exists.intro); exact ⟨⟨j + 1, _, by omega, by go_num, HT2, by first | rfl | trivial⟩, rfl⟩)
          · have hd : (!decide (l[j] = k[j])) = true := by simp [he]
            have hne : decide (l = k) = false := by
              simp only [decide_eq_false_iff_not]
              intro h; subst h; exact he rfl
            have HNE := hide (HRR.out.trans hne)
            clear he HT hne
            go_wp2
            go_quiet (fail)
            go_wp2
            go_ret
            exact ⟨ret_bool HNE.out.symm, _, by rw [World.drewN_drewN]⟩
        · obtain rfl : j = l.length := by omega
          have he : l = k := by
            have h1 := HT.out
            rw [List.take_of_length_le (by omega), List.take_of_length_le (by have := HL.out; omega)] at h1
            exact h1
          have hne : decide (l = k) = true := by simp [he]
          have HNE := hide (HRR.out.trans hne)
          clear HT he hne hcell1 hcell2
          go_wp2
          go_ret
          exact ⟨ret_bool HNE.out.symm, n, rfl⟩
    · have h1 : l = [] := List.eq_nil_of_length_eq_zero (by omega)
      have h2 : k = [] := List.eq_nil_of_length_eq_zero (by omega)
      subst h1 h2
      clear h g hl hk hlen hp e1
      go_enter Tryd.func14, Tryd.ntmps14
      go_wp2
      refine wp_loop_rounds 2 ?_
      rw [rounds_succ]; go_wp2
      go_ret
      exact ⟨rfl, 0, rfl⟩
  · have e1 : ((l.length : Int) != (k.length : Int)) = true := by simp; omega
    have e2 : decide (l = k) = false := by simp; intro h; rw [h] at hlen; exact hlen rfl
    rw [e2]
    clear e2 hlen h g
    go_enter Tryd.func14, Tryd.ntmps14
    go_wp2
    go_ret
    exact ⟨rfl, 0, rfl⟩
end
section
open Go.ChangeShapes Go.WideShapes Go.ChangeAt Go.RowKit
open SpanM SetM
open Go.Lib (decDigits)
attribute [local go_sem ↓] Go.wp_at_zero Go.wp_at_succ
set_option maxRecDepth 100000
set_option linter.unusedVariables false
/-- What of the digits stands ahead of the last one. -/
def preD (u : Nat) : List UInt8 := if u < 10 then [] else decDigits (u / 10)
theorem dec_pre (u : Nat) : decDigits u = preD u ++ [UInt8.ofNat (48 + u % 10)] := by
  unfold preD
  rw [decDigits]
  split
  · rw [show u % 10 = u by omega]; rfl
  · rfl
def valD (l : List UInt8) : Nat := l.foldl (fun a c => a * 10 + (c.toNat - 48)) 0
theorem val_snoc (l : List UInt8) (c : UInt8) : valD (l ++ [c]) = valD l * 10 + (c.toNat - 48) := by unfold valD; rw [List.foldl_append]; rfl
theorem d_nat (k : Nat) (h : k < 10) : (UInt8.ofNat (48 + k)).toNat = 48 + k := by rw [UInt8.toNat_ofNat']; omega
theorem val_dec (u : Nat) : valD (decDigits u) = u := by
  induction u using Nat.strongRecOn with
  | _ u ih =>
    rw [dec_pre, val_snoc, d_nat _ (by omega)]
    unfold preD
    split
    · show 0 * 10 + _ = _; omega
    · rw [ih (u / 10) (by omega)]; omega
theorem dec_chars (u : Nat) : ∀ c ∈ decDigits u, 48 ≤ c.toNat ∧ c.toNat ≤ 57 := by
  induction u using Nat.strongRecOn with
  | _ u ih =>
    intro c hc
    rw [dec_pre] at hc
    rcases List.mem_append.1 hc with hc | hc
    · unfold preD at hc
      split at hc
      · cases hc
      · exact ih (u / 10) (by omega) c hc
    · have : c = UInt8.ofNat (48 + u % 10) := by simpa using hc
      rw [this, d_nat _ (by omega)]; omega
theorem dec_len (u : Nat) : (decDigits u).length ≤ u + 1 := by
  induction u using Nat.strongRecOn with
  | _ u ih =>
    rw [dec_pre, List.length_append]
    unfold preD
    split
    · simp
    · have := ih (u / 10) (by omega)
      simp; omega
theorem dec_len2 (u : Nat) (h : u < 1000000) : (decDigits u).length ≤ 6 := by
  have step : ∀ (k u : Nat), u < 10 ^ (k + 1) → (decDigits u).length ≤ k + 1 := by
    intro k
    induction k with
    | zero => intro u hu; rw [dec_pre]; unfold preD; rw [if_pos (by omega)]; simp
    | succ k ih =>
      intro u hu
      rw [dec_pre, List.length_append]
      unfold preD
      split
      · simp
      · have := ih (u / 10) (by rw [Nat.pow_succ] at hu; omega)
        simp; omega
  exact step 5 u (by omega)
theorem dec_inj {i j : Nat} (h : decDigits i = decDigits j) : i = j := by have := congrArg valD h; rwa [val_dec, val_dec] at this
theorem itoa_size (u : Nat) (h : u < 1000000) : (itoaS u).size ≤ 6 := dec_len2 u h
theorem itoa_inj {i j : Nat} (h : itoaS i = itoaS j) : i = j := by
  have := congrArg (fun x : ByteArray => x.data.toList) h
  simp only [itoaS] at this
  exact dec_inj (by simpa using this)
set_option maxHeartbeats 4000000 in
theorem digits_any (n0 : Nat) (h : n0 < 1000000) (w : World) : Calls Tryd.prog 20 #[.int .i64 n0] w fun e w' => e = .returned (.string (itoaS n0)) ∧ Below w.heap.size w w' := by
  have hstep : ∀ (W : World) (u : Nat), (convert 64 9 (.slice (some ⟨W.heap.size, 0, none⟩) 1 1)).run Tryd.prog (W.alloc (.cells #[.int .u8 (48 + ((u % 10 : Nat) : Int))] 5)) = .ok (.string ⟨#[UInt8.ofNat (48 + u % 10)]⟩) (W.alloc (.cells #[.int .u8 (48 + ((u % 10 : Nat) : Int))] 5)) := by
    intro W u
    have hd := d_nat (u % 10) (by omega)
    exact Go.run_convert_bytes_back (P := Tryd.prog) (W.alloc (.cells #[.int .u8 (48 + ((u % 10 : Nat) : Int))] 5)) 64 9 5 ⟨W.heap.size, 0, none⟩ 1 [UInt8.ofNat (48 + u % 10)] Tryd.underlying64 Tryd.underlying5 Tryd.underlying9 (fun j hj => by
      obtain rfl : j = 0 := by simp at hj; omega
      simp only [Addr.add, List.getElem_cons_zero, hd]
      go_simp)
  have hnum : ∀ u : Nat, u < 1000000 → (u : Int).tmod 10 = ((u % 10 : Nat) : Int) ∧ (u : Int).tdiv 10 = ((u / 10 : Nat) : Int) ∧ IntKind.i64.wrap ((u % 10 : Nat) : Int) = ((u % 10 : Nat) : Int) ∧ IntKind.i64.wrap (48 + ((u % 10 : Nat) : Int)) = 48 + ((u % 10 : Nat) : Int) ∧ IntKind.u8.wrap (48 + ((u % 10 : Nat) : Int)) = 48 + ((u % 10 : Nat) : Int) ∧ IntKind.i64.wrap ((u / 10 : Nat) : Int) = ((u / 10 : Nat) : Int) := by
    intro u hu
    refine ⟨by rw [Int.tmod_eq_emod_of_nonneg (by omega)]; omega, by rw [Int.tdiv_eq_ediv_of_nonneg (by omega)]; omega, by rw [IntKind.wrap_i64]; omega, by rw [IntKind.wrap_i64]; omega, by rw [IntKind.wrap_u8]; omega, by rw [IntKind.wrap_i64]; omega⟩
  have HST := hide hstep
  have HNM := hide hnum
  have hl6 := dec_len2 n0 h
  have H6 := hide hl6
  have hd1 : decDigits n0 = preD n0 ++ (⟨#[UInt8.ofNat (48 + n0 % 10)]⟩ : ByteArray).data.toList := dec_pre n0
  have HD1 := hide hd1
  obtain ⟨n1, n2, n3, n4, n5, n6⟩ := hnum n0 h
  have hs0 := hstep w n0
  clear hstep hnum hl6 hd1
  obtain ⟨d, hd⟩ : ∃ d, n0 % 10 = d := ⟨_, rfl⟩
  rw [hd] at n1 n3 n4 n5 hs0 HD1
  have hd10 : d < 10 := by omega
  obtain ⟨c, hc⟩ : ∃ c, UInt8.ofNat (48 + d) = c := ⟨_, rfl⟩
  rw [hc] at hs0 HD1
  clear hd n2 n6 hc
  go_enter Tryd.func20, Tryd.ntmps20
  go_wp2
  clear n1 n3 n4 n5 hs0 hd10
  go_loopw [0, 3] (fun a b wr => ∃ (u : Nat) (s : ByteArray), a = .int .i64 u ∧ b = .string s ∧ u ≤ n0 ∧ Hid (decDigits n0 = preD u ++ s.data.toList) ∧ Hid (Below w.heap.size w wr)) (fun a _ _ => (intOf a).toNat)
  case atStart => exact ⟨n0, ⟨#[c]⟩, rfl, rfl, Nat.le_refl _, HD1, hide (bl_alloc (bl_refl w) _)⟩
  case round =>
    clear HD1
    obtain ⟨u, s, rfl, rfl, hu, HD, HB⟩ := hrel
    by_cases h10 : 10 ≤ u
    · have gl : decide ((10 : Int) ≤ (u : Int)) = true := decide_eq_true (by omega)
      have gl' : decide (10 ≤ u) = true := decide_eq_true h10
      obtain ⟨n1, n2, n3, n4, n5, n6⟩ := HNM.out u (by omega)
      obtain ⟨m1, m2, m3, m4, m5, m6⟩ := HNM.out (u / 10) (by omega)
      have hs0 := HST.out wr (u / 10)
      have hsz : s.size ≤ 6 := by
        have h6 := H6.out
        rw [HD.out, List.length_append] at h6
        show s.data.toList.length ≤ 6
        omega
      have HD2 := hide (show decDigits n0 = preD (u / 10) ++ ((⟨#[UInt8.ofNat (48 + u / 10 % 10)]⟩ : ByteArray) ++ s).data.toList by
        rw [HD.out, ByteArray.toList_data_append]
        show preD u ++ _ = preD (u / 10) ++ ([UInt8.ofNat (48 + u / 10 % 10)] ++ _)
        rw [← List.append_assoc, ← dec_pre]
        conv => lhs; unfold preD
        rw [if_neg (by omega)])
      have hlt : u / 10 < u := by omega
      have HB2 := hide (bl_alloc HB.out (.cells #[.int .u8 (48 + ((u / 10 % 10 : Nat) : Int))] 5))
      have hz : ((⟨#[UInt8.ofNat (48 + u / 10 % 10)]⟩ : ByteArray)).size = 1 := rfl
      clear HD m2 m6 n1 n3 n4 n5
      obtain ⟨v, hv⟩ : ∃ v, u / 10 = v := ⟨_, rfl⟩
      rw [hv] at n2 n6 m1 m3 m4 m5 hs0 HD2 HB2 hlt hz
      obtain ⟨d, hd⟩ : ∃ d, v % 10 = d := ⟨_, rfl⟩
      rw [hd] at m1 m3 m4 m5 hs0 HD2 HB2 hz
      have hd10 : d < 10 := by omega
      have hvn : v ≤ n0 := by omega
      obtain ⟨c, hc⟩ : ∃ c, UInt8.ofNat (48 + d) = c := ⟨_, rfl⟩
      rw [hc] at hs0 HD2 hz
      clear hd hv hc
      go_wp2
      refine ⟨?_, by first | (simp [intOf]; done) | (simp [intOf]; omega)⟩
      first
        | exact ⟨v, ⟨#[c]⟩ ++ s, by go_num, rfl, hvn, HD2, HB2⟩
        | ((repeat apply Exists.intro); exact ⟨⟨v, ⟨#[c]⟩ ++ s, by go_num, rfl, hvn, HD2, HB2⟩, rfl⟩)
    · have gl : decide ((10 : Int) ≤ (u : Int)) = false := decide_eq_false (by omega)
      have gl' : decide (10 ≤ u) = false := decide_eq_false h10
      have hfin : itoaS n0 = s := by
        have h1 := HD.out
        unfold preD at h1
        rw [if_pos (by omega), List.nil_append] at h1
        unfold itoaS
        rw [h1]
      have HF := hide hfin
      clear hfin HD HNM HST H6
      go_wp2
      go_ret
      exact ⟨by rw [HF.out]; rfl, HB.out⟩
end
section
open Go.ChangeShapes Go.WideShapes Go.ChangeAt Go.RowKit
open SpanM SetM
attribute [local go_sem ↓] Go.wp_at_zero Go.wp_at_succ
set_option maxRecDepth 100000
set_option linter.unusedVariables false
theorem lst_is (x : ByteArray) (c : Int) (j : Nat) (h : j < x.size) (hc : (x[j].toNat : Int) = c) (hn : ∀ i (hi : i < x.size), j < i → (x[i].toNat : Int) ≠ c) : lstB x c = j := by
  rcases lst_cases x c with ⟨h1, h2⟩ | ⟨i, h1, h2, h3, h4⟩
  · exact absurd hc (h2 j h)
  · rcases Nat.lt_trichotomy i j with h5 | h5 | h5
    · exact absurd hc (h4 j h h5)
    · subst h5; exact h2
    · exact absurd h3 (hn i h1 h5)
theorem lst_no (x : ByteArray) (c : Int) (hn : ∀ i (hi : i < x.size), (x[i].toNat : Int) ≠ c) : lstB x c = -1 := by
  rcases lst_cases x c with ⟨h1, h2⟩ | ⟨i, h1, h2, h3, h4⟩
  · exact h1
  · exact absurd h3 (hn i h1)
set_option maxHeartbeats 4000000 in
theorem rlast_any (x : ByteArray) (c : Int) (k : Int) (hk : lstB x c = k) (hx : x.size ≤ 1000000) (w : World) : Calls Tryd.prog 51 #[.string x, .int .u8 c] w fun e w' => e = .returned (.int .i64 k) ∧ w = w' := by
  have HK := hide hk
  clear hk
  go_enter Tryd.func51, Tryd.ntmps51
  go_wp2
  go_loopw [5] (fun v wr => ∃ j : Nat, v = .int .i64 ((j : Int) - 1) ∧ j ≤ x.size ∧ Hid (∀ i (hi : i < x.size), j ≤ i → (x[i].toNat : Int) ≠ c) ∧ w = wr) (fun v _ => (intOf v + 1).toNat)
  case atStart => exact ⟨x.size, rfl, Nat.le_refl _, hide (fun i h1 h2 => absurd h1 (by omega)), rfl⟩
  case round =>
    obtain ⟨j, rfl, hj, HN, rfl⟩ := hrel
    by_cases h0 : j = 0
    · subst h0
      have e := lst_no x c (fun i hi => HN.out i hi (Nat.zero_le _))
      rw [HK.out] at e
      subst e
      have g1 : decide ((0 : Int) ≤ ((0 : Nat) : Int) - 1) = false := by decide
      clear HN HK
      go_wp2
      go_ret
      exact ⟨rfl, rfl⟩
    · obtain ⟨m, rfl⟩ : ∃ m, j = m + 1 := ⟨j - 1, by omega⟩
      have em : (((m + 1 : Nat) : Int) - 1) = (m : Int) := by omega
      rw [em]
      have hm : m < x.size := by omega
      have g1 : decide ((0 : Int) ≤ (m : Int)) = true := decide_eq_true (by omega)
      by_cases hc : (x[m].toNat : Int) = c
      · have e := lst_is x c m hm hc (fun i hi h => HN.out i hi (by omega))
        rw [HK.out] at e
        subst e
        have g2 : (((x[m].toNat : Nat) : Int) != c) = false := by rw [hc]; simp
        clear HN HK hc h0 em
        go_wp2
        go_ret
        exact ⟨rfl, rfl⟩
      · have g2 : (((x[m].toNat : Nat) : Int) != c) = true := by simp [bne_iff_ne]; exact hc
        have HN2 := hide (show ∀ i (hi : i < x.size), m ≤ i → (x[i].toNat : Int) ≠ c from fun i h1 h2 => by
          rcases Nat.eq_or_lt_of_le h2 with h3 | h3
          · subst h3; exact hc
          · exact HN.out i h1 (by omega))
        clear HN HK hc h0 em
        go_wp2
        refine ⟨?_, by first | (simp [intOf]; done) | (simp [intOf]; omega)⟩
        first
          | exact ⟨m, by go_num, by omega, HN2, by first | rfl | trivial⟩
          | ((repeat apply Exists.intro); exact ⟨⟨m, by go_num, by omega, HN2, by first | rfl | trivial⟩, rfl⟩)
set_option maxHeartbeats 2000000 in
theorem rspanV (a1 a2 : Int) (k1 k2 : Int) (h1 : min a1 a2 = k1) (h2 : max a1 a2 = k2) (w : World) : Calls Tryd.prog 47 #[.agg #[.int .i64 a1, .int .i64 a2]] w fun e w' => e = .returned (.agg #[.int .i64 k1, .int .i64 k2]) ∧ Below w.heap.size w w' := by
  have hB := fun k1 k2 : Int => bl_alloc (bl_alloc (bl_refl w) (.cells #[.int .i64 a1, .int .i64 a2] 39)) (.cells #[.int .i64 k1, .int .i64 k2] 71)
  subst h1 h2
  rcases Int.lt_trichotomy a1 a2 with h | h | h
  · have e1 : min a1 a2 = a1 := by omega
    have e2 : max a1 a2 = a2 := by omega
    rw [e1, e2]
    have g1 : a1 ≤ a2 := by omega
    have g2 : ¬ a2 < a1 := by omega
    have g3 : ¬ a2 ≤ a1 := by omega
    go_enter Tryd.func47, Tryd.ntmps47
    go_wp2
    refine bodyPost_ret (v := .agg #[.int .i64 a1, .int .i64 a2]) ?_ rfl ⟨rfl, hB _ _⟩
    rw [vres_cell1 rfl]
    go_simp
  · subst h
    have e1 : min a1 a1 = a1 := by omega
    have e2 : max a1 a1 = a1 := by omega
    rw [e1, e2]
    have g2 : ¬ a1 < a1 := by omega
    go_enter Tryd.func47, Tryd.ntmps47
    go_wp2
    refine bodyPost_ret (v := .agg #[.int .i64 a1, .int .i64 a1]) ?_ rfl ⟨rfl, hB _ _⟩
    rw [vres_cell1 rfl]
    go_simp
  · have e1 : min a1 a2 = a2 := by omega
    have e2 : max a1 a2 = a1 := by omega
    rw [e1, e2]
    have g1 : a2 ≤ a1 := by omega
    have g2 : ¬ a1 < a2 := by omega
    have g3 : ¬ a1 ≤ a2 := by omega
    go_enter Tryd.func47, Tryd.ntmps47
    go_wp2
    refine bodyPost_ret (v := .agg #[.int .i64 a2, .int .i64 a1]) ?_ rfl ⟨rfl, hB _ _⟩
    rw [vres_cell1 rfl]
    go_simp
/-- A row that is built, behind ws. -/
def RAcc (ws : World) (n : Nat) (l : List Rw) (v : Value) (W : World) : Prop := Below ws.heap.size ws W ∧ W.ownsRow ws.heap.size 46 2 v n (flatR l)
theorem RAcc.bl {ws W W' : World} {n : Nat} {l : List Rw} {v : Value} (h : RAcc ws n l v W) (hb : Below W.heap.size W W') : RAcc ws n l v W' := ⟨bl_trans h.1 hb, own_below h.2 hb⟩
theorem path_k (x : ByteArray) : ∃ kf km : Nat, lstB x 47 + 1 = kf ∧ max (lstB x 47) 0 = km ∧ cutF x = x.extract kf x.size ∧ cutD x = x.extract 0 km ∧ kf ≤ x.size ∧ km ≤ x.size ∧ -1 ≤ lstB x 47 ∧ lstB x 47 ≤ x.size := by
  rcases lst_bd x 47 with h | ⟨i, hi, h⟩
  · refine ⟨0, 0, by omega, by omega, ?_, ?_, by omega, by omega, by omega, by omega⟩
    · unfold cutF; rw [if_pos (by omega)]; simp; try rfl
    · unfold cutD; rw [if_pos (by omega)]; simp; try rfl
  · refine ⟨i + 1, i, by omega, by omega, ?_, ?_, by omega, by omega, by omega, by omega⟩
    · unfold cutF; rw [if_neg (by omega), h, Int.toNat_natCast]
    · unfold cutD; rw [if_neg (by omega), h, Int.toNat_natCast]
theorem size_lst0 (x : ByteArray) : x.toList.isEmpty = decide (x.size = 0) := by
  rw [Go.ByteArray.toList_eq, Bool.eq_iff_iff, List.isEmpty_iff, decide_eq_true_eq]
  show _ ↔ x.data.toList.length = 0
  rw [List.length_eq_zero_iff]
set_option maxHeartbeats 4000000 in
theorem rplace_no (x : ByteArray) (hs : x.size ≤ 100000) (a1 a2 : Int) (ho : a1 < 0 ∨ a2 < 0 ∨ (x.size : Int) < a1 ∨ (x.size : Int) < a2) (v0 : Value) (w : World) : Calls Tryd.prog 23 #[.string x, .agg #[.int .i64 a1, .int .i64 a2], v0] w fun e w' => e = .returned (.tuple #[.slice none 0 0, .int .i64 3]) ∧ Below w.heap.size w w' := by
  obtain ⟨p, hp⟩ : ∃ p, min a1 a2 = p := ⟨_, rfl⟩
  obtain ⟨q, hq⟩ : ∃ q, max a1 a2 = q := ⟨_, rfl⟩
  have HSP := hide (fun W => rspanV a1 a2 p q hp hq W)
  have hor : p < 0 ∨ (x.size : Int) < q := by omega
  clear hp hq ho
  by_cases h0 : p < 0
  · have g0 : decide (p < 0) = true := decide_eq_true h0
    clear hor
    go_enter Tryd.func23, Tryd.ntmps23
    go_wp2_with fail
    (with_reducible refine (HSP.out _).mono ?_)
    rintro e w1 ⟨rfl, hb1⟩
    have HB := hide (bl_trans (bl_trans (bl_alloc (bl_refl w) (.cells #[.int .i64 a1, .int .i64 a2] 39)) hb1) (bl_alloc (bl_refl w1) (.cells #[.int .i64 p, .int .i64 q] 71)))
    clear hb1 h0
    go_wp2
    go_ret2
    exact ⟨rfl, HB.out⟩
  · have g0 : decide (p < 0) = false := decide_eq_false h0
    have g1 : decide ((x.size : Int) < q) = true := decide_eq_true (by omega)
    clear hor
    go_enter Tryd.func23, Tryd.ntmps23
    go_wp2_with fail
    (with_reducible refine (HSP.out _).mono ?_)
    rintro e w1 ⟨rfl, hb1⟩
    have HB := hide (bl_trans (bl_trans (bl_alloc (bl_refl w) (.cells #[.int .i64 a1, .int .i64 a2] 39)) hb1) (bl_alloc (bl_refl w1) (.cells #[.int .i64 p, .int .i64 q] 71)))
    clear hb1 h0
    go_wp2
    go_ret2
    exact ⟨rfl, HB.out⟩
end
section
open Go.ChangeShapes Go.WideShapes Go.ChangeAt Go.RowKit Go.Deep Go.Joins
open SpanM
section
variable {H : Type} {enc : TypeId × Value → H} {W : World} {base : Nat} {held : Bool}
def Wf (s : Sp) : Prop := (Lit.int .i64 s.1).wf = true ∧ (Lit.int .i64 s.2).wf = true
set_option maxRecDepth 100000 in
theorem sp_fields : ∃ f0 f1 : Field, Tryd.prog.underlying 39 = some (.struct #[f0, f1]) ∧ f0.offset = 0 ∧ f1.offset = 1 ∧ f0.type = 3 ∧ f1.type = 3 ∧ oneCellFields Tryd.prog #[f0, f1] = true := by
  refine ⟨_, _, Tryd.underlying39, ?_, ?_, ?_, ?_, ?_⟩ <;> kernel_rfl
set_option maxRecDepth 100000 in
theorem open_span {r : Reach} {b0 : Nat} {v : Value} {d : DataW H} {p : List MemPlace} {spare : Nat → Bool} (hv : Value.okWide Tryd.prog W r b0 39 v) (h : DataW.Trod enc Tryd.prog W base spare held 39 v d p) :
    ∃ s : Sp, v = .agg #[.int .i64 s.1, .int .i64 s.2] ∧ Wf s := by
  obtain ⟨f0, f1, hs, _, _, t0, t1, hone⟩ := sp_fields
  obtain ⟨v0, v1, y0, y1, n, rfl, _, _, h0, h1⟩ := open_agg2 hs hone (by kernel_rfl) hv h
  rw [t0] at h0
  rw [t1] at h1
  obtain ⟨a, e0, _, wa⟩ := DataW.trod_int Tryd.underlying3 h0
  obtain ⟨b, e1, _, wb⟩ := DataW.trod_int Tryd.underlying3 h1
  simp at e0 e1
  subst e0 e1
  exact ⟨(a, b), rfl, wa, wb⟩
end
end
end Go.Proofs.YtmjadcjpgcbalaaDoor
