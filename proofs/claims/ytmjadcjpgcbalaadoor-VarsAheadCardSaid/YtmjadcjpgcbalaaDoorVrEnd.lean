/- Contracts: names of variables; a variable set (vars.Set). Condition: texts and lists that are not too long. Contract: lines of a text, as layer 23's statements make them. Condition: a text that is not too long. What every program answers that is one (layer 23's laws). No condition. -/
import Derived.Test.YtmjadcjpgcbalaaDoorVarA
import Derived.Test.YtmjadcjpgcbalaaDoorLinR
import Derived.Test.YtmjadcjpgcbalaaDoorVarB
namespace Go.Proofs.YtmjadcjpgcbalaaDoor
section
open Go.ChangeShapes Go.WideShapes Go.ChangeAt Go.RowKit
open SpanM SetM
attribute [local go_sem ↓] Go.wp_at_zero Go.wp_at_succ
set_option maxRecDepth 100000
set_option linter.unusedVariables false
/-- Is it a name? -/
def nameB (x : ByteArray) : Bool := decide (0 < x.size) && decide (x.size ≤ 64) && !digZ ((x.data.toList.getD 0 0).toNat : Int) && x.data.toList.all fun c => namZ (c.toNat : Int)
theorem u8_lt (c : UInt8) : (0 : Int) ≤ (c.toNat : Int) ∧ (c.toNat : Int) < 256 := by
  have := c.toNat_lt
  omega
theorem get_l (x : ByteArray) (k : Nat) (h : k < x.size) : x.data.toList.getD k 0 = x[k] := by
  rw [List.getD_eq_getElem?_getD, List.getElem?_eq_getElem (by exact h)]
  rfl
set_option maxHeartbeats 4000000 in
theorem name_any (x : ByteArray) (hx : x.size ≤ 1000000) (b : Bool) (hb : nameB x = b) (w : World) : Calls Tryd.prog 30 #[.string x] w fun e w' => e = .returned (.bool b) ∧ w = w' := by
  by_cases h0 : x.size = 0
  · have hx0 : x = ⟨#[]⟩ := by
      apply SetM.ext
      show x.data.toList = []
      exact List.eq_nil_of_length_eq_zero h0
    subst hx0
    have hb2 : b = false := by rw [← hb]; decide
    subst hb2
    clear hb h0
    go_enter Tryd.func30, Tryd.ntmps30
    go_wp2
    go_ret
    exact ⟨rfl, rfl⟩
  have e0 : x.toList.isEmpty = false := by
    rw [Go.ByteArray.toList_eq]
    cases hl : x.data.toList with
    | nil => exfalso; apply h0; show x.data.toList.length = 0; rw [hl]; rfl
    | cons a r => rfl
  have hp : 0 < x.size := by omega
  by_cases h64 : 64 < x.size
  · have hb2 : b = false := by
      rw [← hb]; unfold nameB
      rw [decide_eq_false (show ¬ x.size ≤ 64 by omega)]; simp
    subst hb2
    have g1 : decide ((64 : Int) < (x.size : Int)) = true := decide_eq_true (by omega)
    have g1' : decide (64 < x.size) = true := decide_eq_true h64
    clear hb h0 h64
    go_enter Tryd.func30, Tryd.ntmps30
    go_wp2
    go_ret
    exact ⟨rfl, rfl⟩
  have g1 : decide ((64 : Int) < (x.size : Int)) = false := decide_eq_false (by omega)
  have g1' : decide (64 < x.size) = false := decide_eq_false h64
  have HDG := hide (fun W => dig_m ((x[0].toNat : Nat) : Int) (u8_lt _).1 (u8_lt _).2 W)
  rcases hd : digZ ((x[0].toNat : Nat) : Int) with _ | _
  · rw [hd] at HDG
    have HB := hide hb
    have HD := hide hd
    have H64 := hide h64
    clear hb hd h0 h64
    go_enter Tryd.func30, Tryd.ntmps30
    go_wp2_with fail
    refine (HDG.out _).mono ?_
    rintro e w1 ⟨rfl, hw1⟩
    subst hw1
    clear g1 g1' e0
    go_wp2
    go_loopw [18] (fun i wr => ∃ k : Nat, i = .int .i64 k ∧ k ≤ x.size ∧ Hid (∀ j (hj : j < x.size), j < k → namZ ((x[j].toNat : Nat) : Int) = true) ∧ w = wr) (fun i _ => x.size - (intOf i).toNat)
    case atStart => exact ⟨0, rfl, Nat.zero_le _, hide (fun j _ h => by omega), rfl⟩
    case round =>
      obtain ⟨k, rfl, hk, HA, rfl⟩ := hrel
      by_cases hlt : k < x.size
      · have gl : decide (k < x.size) = true := decide_eq_true hlt
        have gl' : decide ((k : Int) < (x.size : Int)) = true := decide_eq_true (by omega)
        have HN := hide (fun W => nam_m ((x[k].toNat : Nat) : Int) (u8_lt _).1 (u8_lt _).2 W)
        rcases hn : namZ ((x[k].toNat : Nat) : Int) with _ | _
        · rw [hn] at HN
          have hb2 : b = false := by
            rw [← HB.out]; unfold nameB
            rw [show (x.data.toList.all fun c => namZ (c.toNat : Int)) = false from by
              rw [List.all_eq_false]
              refine ⟨x.data.toList[k]'(by exact hlt), List.getElem_mem _, ?_⟩
              show ¬ namZ ((x[k].toNat : Nat) : Int) = true
              rw [hn]; simp]
            simp
          subst hb2
          clear hn HA HB HD H64
          go_wp2_with fail
          refine (HN.out _).mono ?_
          rintro e w2 ⟨rfl, hw2⟩
          subst hw2
          go_wp2
          go_ret
          exact ⟨rfl, by first | rfl | trivial⟩
        · rw [hn] at HN
          have HA2 := hide (show ∀ j (hj : j < x.size), j < k + 1 → namZ ((x[j].toNat : Nat) : Int) = true from fun j hj h => by
            rcases Nat.eq_or_lt_of_le (Nat.le_of_lt_succ h) with h1 | h1
            · subst h1; exact hn
            · exact HA.out j hj h1)
          clear hn HA
          go_wp2_with fail
          refine (HN.out _).mono ?_
          rintro e w2 ⟨rfl, hw2⟩
          subst hw2
          go_wp2
          refine ⟨?_, by first | (simp [intOf]; done) | (simp [intOf]; omega)⟩
          first
            | exact ⟨k + 1, by go_num, by omega, HA2, by first | rfl | trivial⟩
            | ((repeat apply Exists.intro); exact ⟨⟨k + 1, by go_num, by omega, HA2, by first | rfl | trivial⟩, rfl⟩)
      · obtain rfl : k = x.size := by omega
        have gl : decide (x.size < x.size) = false := by simp
        have hb2 : b = true := by
          rw [← HB.out]; unfold nameB
          have h1 := HD.out
          have h2 := H64.out
          rw [get_l x 0 hp, h1, decide_eq_true hp, decide_eq_true (show x.size ≤ 64 by omega), show (x.data.toList.all fun c => namZ (c.toNat : Int)) = true from by
            rw [List.all_eq_true]
            intro c hc
            obtain ⟨j, hj, rfl⟩ := List.getElem_of_mem hc
            exact HA.out j hj hj]
          rfl
        subst hb2
        clear HA HB HD H64 hlt
        go_wp2
        go_ret
        exact ⟨rfl, by first | rfl | trivial⟩
  · rw [hd] at HDG
    have hb2 : b = false := by
      rw [← hb]; unfold nameB
      rw [get_l x 0 hp, hd]; simp
    subst hb2
    clear hb hd h0 h64
    go_enter Tryd.func30, Tryd.ntmps30
    go_wp2_with fail
    refine (HDG.out _).mono ?_
    rintro e w1 ⟨rfl, hw1⟩
    subst hw1
    go_wp2
    go_ret
    exact ⟨rfl, by first | rfl | trivial⟩
/-- Where a name stands first, or -1. -/
def FstAt (l : List Rw) (nm : ByteArray) (j : Int) : Prop := (j = -1 ∧ ∀ i (h : i < l.length), eqB l[i].1 nm = false) ∨ ∃ (k : Nat) (h : k < l.length), j = k ∧ eqB l[k].1 nm = true ∧ ∀ i (hi : i < k), eqB (l[i]'(by omega)).1 nm = false
def IdxPost2 (l : List Rw) (nm : ByteArray) (w : World) (e : Ending) (w' : World) : Prop :=
  ∃ j : Int, e = .returned (.int .i64 j) ∧ Below w.heap.size w w' ∧ Hid (FstAt l nm j)
set_option maxHeartbeats 2000000 in
theorem idx2_any (v : Value) (l : List Rw) (nm : ByteArray) (b : Nat) (w : World) (h : RwAt w v l) (hl : l.length ≤ 1000) (hc : w.cell? ⟨b, 0, none⟩ = some (.string nm)) :
    Calls Tryd.prog 57 #[v, .func (.func 58) #[] #[.pointer (some ⟨b, 0, none⟩)]] w (IdxPost2 l nm w) := by
  have HW := hide h
  have HC := hide hc
  obtain ⟨aA, cA, rfl⟩ := rwat_len h
  clear h hc
  go_enter Tryd.func57, Tryd.ntmps57
  go_wp2
  go_loopw [8] (fun i wr => ∃ k : Nat, i = .int .i64 k ∧ k ≤ l.length ∧ Hid (∀ i (hi : i < l.length), i < k → eqB l[i].1 nm = false) ∧ Below w.heap.size w wr) (fun i _ => l.length - (intOf i).toNat)
  case atStart => exact ⟨0, rfl, Nat.zero_le _, hide (fun i _ h => by omega), bl_refl w⟩
  case round =>
    obtain ⟨k, rfl, hk, HV, hbl⟩ := hrel
    by_cases hlt : k < l.length
    · obtain ⟨b1, o1, c1, hv1, hc1, hm1, hlb1, hcell1⟩ := rwat_some (rwat_below HW.out hbl) (by omega)
      injection hv1 with hv1 _ hv1c
      subst hv1 hv1c
      unfold maxLen at hm1
      obtain ⟨x1, x2⟩ := hcell1 k hlt
      obtain ⟨r, hr⟩ : ∃ r, eqB l[k].1 nm = r := ⟨_, rfl⟩
      have HCL := hide (fun W (hW : W.cell? ⟨b, 0, none⟩ = some (.string nm)) => clos_any l[k] nm b r W hW hr)
      have HCN := hide (cell_later hbl HC.out)
      cases r
      · have HV2 := hide (show ∀ i (hi : i < l.length), i < k + 1 → eqB l[i].1 nm = false from fun i hi h => by
          rcases Nat.eq_or_lt_of_le (Nat.le_of_lt_succ h) with h1 | h1
          · subst h1; exact hr
          · exact HV.out i hi h1)
        clear hr HV hcell1
        generalize l[k] = s at *
        go_wp2_with (go_at_call 58; refine (HCL.out _ HCN.out).mono ?_; rintro e w1 ⟨rfl, hb1⟩)
        refine ⟨?_, by first | (simp [intOf]; done) | (simp [intOf]; omega)⟩
        have hb2 := bl_trans hbl hb1
        first
          | exact ⟨k + 1, by go_num, by omega, HV2, hb2⟩
          | ((repeat apply Exists.intro); exact ⟨⟨k + 1, by go_num, by omega, HV2, hb2⟩, rfl⟩)
      · have HP := hide (show ∀ W, Below w.heap.size w W → IdxPost2 l nm w (.returned (.int .i64 k)) W from fun W hW => ⟨k, rfl, hW, hide (.inr ⟨k, hlt, rfl, hr, fun i hi => HV.out i (by omega) hi⟩)⟩)
        clear hr HV hcell1
        generalize l[k] = s at *
        go_wp2_with (go_at_call 58; refine (HCL.out _ HCN.out).mono ?_; rintro e w1 ⟨rfl, hb1⟩)
        go_ret
        exact HP.out _ (bl_trans hbl hb1)
    · obtain rfl : k = l.length := by omega
      have HP := hide (show IdxPost2 l nm w (.returned (.int .i64 (-1))) wr from ⟨-1, rfl, hbl, hide (.inl ⟨rfl, fun i hi => HV.out i hi hi⟩)⟩)
      clear HV hlt
      go_wp2
      go_ret
      exact HP.out
theorem find2_any (v : Value) (l : List Rw) (nm : ByteArray) (w : World) (h : RwAt w v l) (hl : l.length ≤ 1000) : Calls Tryd.prog 31 #[.string nm, v] w (IdxPost2 l nm w) := by
  have HW1 := hide (rwat_below h (bl_alloc (bl_refl w) (.cells #[.string nm] 9)))
  have hcc : (w.alloc (.cells #[.string nm] 9)).cell? ⟨w.heap.size, 0, none⟩ = some (.string nm) := by go_simp
  have HCC := hide hcc
  obtain ⟨aA, cA, rfl⟩ := rwat_len h
  clear hcc h
  go_enter Tryd.func31, Tryd.ntmps31
  go_wp2_with fail
  refine (idx2_any _ l nm w.heap.size _ HW1.out hl HCC.out).mono ?_
  rintro e w1 ⟨j, rfl, hb1, HJ⟩
  have HP := hide (show IdxPost2 l nm w (.returned (.int .i64 j)) w1 from ⟨j, rfl, bl_trans (bl_alloc (bl_refl w) _) hb1, HJ⟩)
  go_wp2
  go_ret
  exact HP.out
set_option maxHeartbeats 1000000 in
theorem cloneR_any (v : Value) (l : List Rw) (w : World) (h : RwAt w v l) (hl : l.length ≤ 1000) :
    Calls Tryd.prog 32 #[v] w fun e w' => ∃ v', e = .returned v' ∧ Below w.heap.size w w' ∧ w'.ownsRow w.heap.size 46 2 v' l.length (flatR l) := by
  obtain ⟨i0, hi0, hz0', hz1, hz2⟩ := info_parts info_rw
  have hsn := fun (W : World) (a : Option Addr) (n c : Nat) => Lib.run_eql_slice_nil (P := Tryd.prog) W 22 46 a n c 0 0 Tryd.underlying22
  rcases h with ⟨rfl, rfl⟩ | ⟨x, c, rfl, h1, h2, h3⟩
  · go_enter Tryd.func32, Tryd.ntmps32
    go_wp2
    go_ret
    exact ⟨_, rfl, bl_refl w, ⟨rfl, .inl ⟨rfl, rfl⟩⟩⟩
  · have hm0 := World.ownsRow_made (base := w.heap.size) (e := 46) (size := 2) w #[] 0 (Nat.le_refl _) (by simp [maxLen]) (by simp)
    have hnews : ∀ j u, (flatR l)[j]? = some u → (w.alloc (.cells #[] 46)).cell? (x.add j) = some u := by
      intro j u hu
      have hj : j < l.length * 2 := by
        have := (List.getElem?_eq_some_iff.1 hu).1
        rwa [flatR_len] at this
      have hq : j / 2 < l.length := by omega
      have hf := flatR_at l (j / 2) hq
      have hc := h3 (j / 2) hq
      rcases Nat.mod_two_eq_zero_or_one j with hh | hh
      · have ht : j / 2 * 2 = j := by omega
        rw [ht] at hf hc
        rw [hu] at hf
        rw [Option.some.inj hf.1]
        exact cell_later (bl_alloc (bl_refl w) _) hc.1
      · have ht : j / 2 * 2 + 1 = j := by omega
        rw [ht] at hf hc
        rw [hu] at hf
        rw [Option.some.inj hf.2]
        exact cell_later (bl_alloc (bl_refl w) _) hc.2
    have hbb : (l.length) * 32 ≤ 140737488355328 := by omega
    clear h3
    go_enter Tryd.func32, Tryd.ntmps32
    go_wp2_with (at_builtin; (refine wpList_append_own _ rfl _ _ 22 rfl w.heap.size 46 i0 (.agg #[.string ⟨#[]⟩, .string ⟨#[]⟩]) 2 32 Tryd.underlying22 hi0 hz0' hz1 hz2 rfl (by decide) _ 0 [] rfl hm0 x l.length c (flatR l) rfl (flatR_len l) hnews (flatR_one l) (by unfold maxLen; omega) (by omega) (by simp) ?_); intro v' w4 hv4 hg4 hat)
    go_ret
    rw [Nat.zero_add, List.nil_append] at hv4
    exact ⟨_, rfl, bl_own (bl_alloc (bl_refl w) _) hm0 hg4 (Nat.le_refl _), hv4⟩

/-- A variable set. -/
def setL (nm v : ByteArray) : List Rw → List Rw
  | [] => [(nm, v)]
  | s :: r => if eqB s.1 nm = true then (s.1, v) :: r else s :: setL nm v r
def setE (nm v : ByteArray) (l : List Rw) : Int := if nameB nm = false then 2 else if 65536 < v.size then 4 else if getB nm l = false ∧ 64 ≤ l.length then 7 else 0
def setR (nm v : ByteArray) (l : List Rw) : List Rw := if setE nm v l = 0 then setL nm v l else []
theorem fst_no {l : List Rw} {nm : ByteArray} (h : ∀ i (h : i < l.length), eqB l[i].1 nm = false) (v : ByteArray) : getB nm l = false ∧ setL nm v l = l ++ [(nm, v)] := by
  induction l with
  | nil => exact ⟨rfl, rfl⟩
  | cons s r ih =>
    have h0 := h 0 (by simp)
    obtain ⟨i1, i2⟩ := ih (fun i hi => h (i + 1) (by simpa using hi))
    have h0' : eqB s.1 nm = false := h0
    refine ⟨?_, ?_⟩
    · unfold getB at i1 ⊢; rw [List.any_cons, h0', i1]; rfl
    · rw [setL, if_neg (by rw [h0']; simp), i2]; rfl
theorem fst_at {l : List Rw} {nm : ByteArray} (k : Nat) (hk : k < l.length) (h1 : eqB l[k].1 nm = true) (h2 : ∀ i (hi : i < k), eqB (l[i]'(by omega)).1 nm = false) (v : ByteArray) : getB nm l = true ∧ setL nm v l = l.set k (l[k].1, v) := by
  induction l generalizing k with
  | nil => simp at hk
  | cons s r ih =>
    cases k with
    | zero =>
      have h1' : eqB s.1 nm = true := h1
      refine ⟨?_, ?_⟩
      · unfold getB; rw [List.any_cons, h1']; rfl
      · rw [setL, if_pos h1']; rfl
    | succ k =>
      have h0 : eqB s.1 nm = false := h2 0 (by omega)
      obtain ⟨i1, i2⟩ := ih k (by simpa using hk) h1 (fun i hi => h2 (i + 1) (by omega))
      refine ⟨?_, ?_⟩
      · unfold getB at i1 ⊢; rw [List.any_cons, i1]; simp
      · rw [setL, if_neg (by rw [h0]; simp), i2]; rfl
def SetPost (w : World) (E : Int) (R : List Rw) (e : Ending) (w' : World) : Prop := ∃ v', e = .returned (.tuple #[v', .int .i64 E]) ∧ Below w.heap.size w w' ∧ w'.ownsRow w.heap.size 46 2 v' R.length (flatR R)
theorem set_nil {w w' : World} {E : Int} (hb : Below w.heap.size w w') : SetPost w E [] (.returned (.tuple #[.slice none 0 0, .int .i64 E])) w' := ⟨_, rfl, hb, ⟨rfl, .inl ⟨rfl, rfl⟩⟩⟩
set_option maxHeartbeats 8000000 in
theorem set_any (nm v : ByteArray) (v0 : Value) (l : List Rw) (w : World) (h : RwAt w v0 l) (hl : l.length ≤ 100) (hn : nm.size ≤ 1000000) :
    Calls Tryd.prog 12 #[.string nm, .string v, v0] w (SetPost w (setE nm v l) (setR nm v l)) := by
  obtain ⟨i0, hi0, hz0', hz1, hz2⟩ := info_parts info_rw
  have HN := hide (fun b hb W => name_any nm hn b hb W)
  have HF := hide (fun W (hb : Below w.heap.size w W) => find2_any v0 l nm W (rwat_below h hb) (by omega))
  have HCN := hide (fun W (hb : Below w.heap.size w W) => cloneR_any v0 l W (rwat_below h hb) (by omega))
  have HW := hide h
  obtain ⟨aA, cA, rfl⟩ := rwat_len h
  clear h
  rcases hnb : nameB nm with _ | _
  · have HK := hide (HN.out _ hnb)
    have e1 : setE nm v l = 2 := by unfold setE; rw [if_pos hnb]
    have e2 : setR nm v l = [] := by unfold setR; rw [if_neg (by rw [e1]; decide)]
    rw [e1, e2]
    clear e1 e2 hnb HN HF HCN HW
    go_enter Tryd.func12, Tryd.ntmps12
    go_wp2_with fail
    refine (HK.out _).mono ?_
    rintro e w1 ⟨rfl, hw1⟩
    subst hw1
    go_wp2
    go_ret2
    exact set_nil (bl_refl _)
  have HK := hide (HN.out _ hnb)
  by_cases hv : 65536 < v.size
  · have e1 : setE nm v l = 4 := by unfold setE; rw [if_neg (by rw [hnb]; simp), if_pos hv]
    have e2 : setR nm v l = [] := by unfold setR; rw [if_neg (by rw [e1]; decide)]
    rw [e1, e2]
    have gv : decide ((65536 : Int) < (v.size : Int)) = true := decide_eq_true (by omega)
    have gv' : decide (65536 < v.size) = true := decide_eq_true hv
    clear e1 e2 hnb HN HF HCN HW hv
    go_enter Tryd.func12, Tryd.ntmps12
    go_wp2_with fail
    refine (HK.out _).mono ?_
    rintro e w1 ⟨rfl, hw1⟩
    subst hw1
    go_wp2
    go_ret2
    exact set_nil (bl_refl _)
  have gv : decide ((65536 : Int) < (v.size : Int)) = false := decide_eq_false (by omega)
  have gv' : decide (65536 < v.size) = false := decide_eq_false hv
  have HNB := hide hnb
  have HVV := hide hv
  clear hnb HN hv
  go_enter Tryd.func12, Tryd.ntmps12
  go_wp2_with fail
  refine (HK.out _).mono ?_
  rintro e w1 ⟨rfl, hw1⟩
  subst hw1
  go_wp2_with fail
  refine (HF.out _ (bl_refl w)).mono ?_
  rintro e w2 ⟨j, rfl, hb2, HJ⟩
  clear gv gv' HF HK
  rcases HJ.out with ⟨rfl, hj⟩ | ⟨k, hk, rfl, hk1, hk2⟩
  · obtain ⟨f1, f2⟩ := fst_no hj v
    by_cases hfull : 64 ≤ l.length
    · have e1 : setE nm v l = 7 := by unfold setE; rw [if_neg (by rw [HNB.out]; simp), if_neg HVV.out, if_pos ⟨f1, hfull⟩]
      have e2 : setR nm v l = [] := by unfold setR; rw [if_neg (by rw [e1]; decide)]
      have HE := hide (And.intro e1 e2)
      have gf : decide ((64 : Int) ≤ (l.length : Int)) = true := decide_eq_true (by omega)
      have gf' : decide (64 ≤ l.length) = true := decide_eq_true hfull
      clear e1 e2 f1 f2 hj HJ HNB HVV hfull HCN
      go_wp2
      go_ret2
      rw [HE.out.1, HE.out.2]
      exact set_nil hb2
    · have e1 : setE nm v l = 0 := by unfold setE; rw [if_neg (by rw [HNB.out]; simp), if_neg HVV.out, if_neg (fun h => hfull h.2)]
      have e2 : setR nm v l = l ++ [(nm, v)] := by unfold setR; rw [if_pos e1, f2]
      have HE := hide (And.intro e1 e2)
      have gf : decide ((64 : Int) ≤ (l.length : Int)) = false := decide_eq_false (by omega)
      have gf' : decide (64 ≤ l.length) = false := decide_eq_false hfull
      clear e1 e2 f1 f2 hj HJ HNB HVV hfull
      go_wp2_with fail
      refine (HCN.out _ hb2).mono ?_
      rintro e w3 ⟨v3, rfl, hb3, ho3⟩
      have ho3 := own_base ho3 hb2.size
      have HB3 := hide (bl_trans hb2 hb3)
      obtain ⟨aV, cV, rfl⟩ := own_slice ho3
      have HO := hide ho3
      have hz := HB3.out.size
      clear ho3 hb3 hb2 HCN
      go_wp2_with (at_builtin; (refine wpList_push w3 rfl _ _ 22 rfl w.heap.size 46 i0 (.agg #[.string ⟨#[]⟩, .string ⟨#[]⟩]) 2 32 Tryd.underlying22 hi0 hz0' hz1 hz2 rfl (by decide) (.slice aV l.length cV) l.length (flatR l) rfl HO.out 1 #[.string nm, .string v] rfl rfl (by simp [Value.oneCell']) (by omega) (by decide) (by omega) ?_); intro v' w4 hv4 hg4 hat; have HV4 := hide hv4; have HG4 := hide hg4; clear hv4 hg4 hat)
      go_ret2
      rw [HE.out.1, HE.out.2]
      refine ⟨v', rfl, bl_own HB3.out HO.out HG4.out (Nat.le_refl _), ?_⟩
      rw [flatR_app, List.length_append]
      exact HV4.out
  · obtain ⟨f1, f2⟩ := fst_at k hk hk1 hk2 v
    have e1 : setE nm v l = 0 := by unfold setE; rw [if_neg (by rw [HNB.out]; simp), if_neg HVV.out, if_neg (fun h => by rw [f1] at h; simp at h)]
    have e2 : setR nm v l = l.set k (l[k].1, v) := by unfold setR; rw [if_pos e1, f2]
    have HE := hide (And.intro e1 e2)
    have gk : decide ((k : Int) < 0) = false := decide_eq_false (by omega)
    clear e1 e2 f1 f2 hk1 hk2 HJ HNB HVV
    go_wp2_with fail
    refine (HCN.out _ hb2).mono ?_
    rintro e w3 ⟨v3, rfl, hb3, ho3⟩
    have ho3 := own_base ho3 hb2.size
    have HB3 := hide (bl_trans hb2 hb3)
    rcases own_form ho3 with ⟨_, g1, g2⟩ | ⟨g, c, rfl, g1, g2, g3, g4, g5⟩
    · omega
    unfold maxLen at g4
    have y1 : w3.cell? ⟨g, k * 2 + 1, none⟩ = some (.string l[k].2) := by rw [World.ownsRow.cellAt ho3 (k * 2 + 1) (by omega)]; exact (flatR_at l k hk).2
    have yf := World.ownsRow.frozenAt ho3 (k * 2 + 1)
    have ho4 := (World.ownsRow.stored ho3 (k * 2 + 1) (.string v)).1
    rw [flatR_set1 l k hk v] at ho4
    have HO4 := hide ho4
    have HB4 := hide (bl_set HB3.out (p := ⟨g, k * 2 + 1, none⟩) g1 (.string v))
    clear ho3 ho4 hb3 hb2 HCN g5
    go_wp2
    go_ret2
    rw [HE.out.1, HE.out.2]
    refine ⟨_, rfl, HB4.out, ?_⟩
    rw [List.length_set]
    exact HO4.out
end
section
open Go.ChangeShapes Go.WideShapes Go.ChangeAt Go.RowKit
attribute [local go_sem ↓] Go.wp_at_zero Go.wp_at_succ
attribute [local go_sem] later_cell later_frozen
set_option maxRecDepth 100000
set_option linter.unusedVariables false
set_option maxHeartbeats 4000000 in
theorem of23_b (x : ByteArray) (w : World) (hs : x.size ≤ 60000) : Calls Tryd.prog 21 #[.string x] w (OfPB w x) := by
  have hb0 : Below w.heap.size w (w.alloc (.cells #[.pointer none] 42)) := bl_alloc (bl_refl w) _
  have hD := rst_dnew (rst_start (w.alloc (.cells #[.pointer none] 42))) [8] #[.int .u32 8] rfl (by decide) (by decide) 1 rfl
  rw [show (w.alloc (.cells #[.pointer none] 42)).heap.size = w.heap.size + 1 from by simp] at hD
  have HD := hide hD
  clear hD
  have hh0 := heap_alloc_new w (.cells #[.pointer none] 42)
  have hlt0 : w.heap.size < (w.alloc (.cells #[.pointer none] 42)).heap.size := by simp
  go_enter Tryd.func21, Tryd.ntmps21
  go_wp2_with fail
  refine HD.out.mono ?_
  rintro e w1 ⟨d, g, rfl, hR, _⟩
  have HN := hide (rst_new1 hR (d := d) (g := g) (by simp) x (by omega))
  clear hR HD
  go_wp2_with fail
  refine HN.out.mono ?_
  rintro e w2 ⟨r, t, rfl, _, htx, hR⟩
  have hne : w.heap.size ∉ RR [(d, g)] [(r, d, t)] := fun hm => by have := (hR.rsv _ hm).1; simp at this; omega
  have hoff : w.heap.size ∉ bks (trs [(r, d, t)]) := fun hm => by have := hR.src _ hm; simp at this; omega
  have hh2 : w2.heap[w.heap.size]? = some (.cells #[.pointer none] 42) := (hR.bel.block _ hlt0).trans hh0
  have HR := hide (hR.base hb0)
  have HT := hide htx
  have HNE := hide hne
  have HOF := hide hoff
  clear hR htx HN hne hoff hb0 hh0 hlt0
  go_wp2_with fail
  refine (lnOf_any _ ⟨_, rfl⟩ _).mono ?_
  rintro e w3 ⟨rfl, hb3⟩
  have hh3 := heap_later hb3 hh2
  have HR := hide (HR.out.bl hb3)
  have hc3 : w3.cell? ⟨w.heap.size, 0, none⟩ = some (.pointer none) := by rw [Lib.cell_of_heap hh3]; rfl
  have hf3 : w3.frozen? ⟨w.heap.size, 0, none⟩ = false := by simp [World.frozen?, hh3]
  clear hh2 hh3 hb3
  go_wp2
  have hR2 := HR.out.setO (Nat.le_refl _) HNE.out HOF.out 0 (.pointer (some ⟨r, 0, none⟩))
  refine bodyPost_ret (v := .tuple #[.agg #[.pointer (some ⟨r, 0, none⟩)], .bool true]) (by simp [results, Tryd.results21, go_sem, hc3]) rfl ⟨r, rfl, rst_ln hR2 (d := d) (t := t) (by simp) HT.out, hR2.bel, fun B o u hB => rst_ln (hR2.setOld hB o u) (d := d) (t := t) (by simp) HT.out⟩
end
section
open Go.ChangeShapes Go.WideShapes Go.ChangeAt Go.RowKit
open SpanM SetM
attribute [local go_sem ↓] Go.wp_at_zero Go.wp_at_succ
attribute [local go_sem] later_cell later_frozen
set_option maxRecDepth 100000
set_option linter.unusedVariables false
def xA : ByteArray := ⟨#[97, 98, 32, 99, 100]⟩
def pA : ByteArray := ⟨#[47, 97, 47, 98, 46, 99, 46, 103, 111]⟩
def kA : ByteArray := ⟨#[84, 77, 95, 70, 73, 76, 69, 80, 65, 84, 72]⟩
def wA : ByteArray := ⟨#[99, 100]⟩
theorem a_facts : atV xA.data.toList 4 = 0 ∧ lnSv xA.data.toList 0 = 0 ∧ lnEv xA.data.toList 0 = 5 ∧ lnC xA.data.toList 0 = 0 := by decide +kernel
theorem a_line : xA.extract 0 5 = xA := by decide +kernel
theorem a_word : wrdF xA 4 = wA := by decide +kernel
theorem a_path : getV kA [(kA, pA)] = pA ∧ getB kA [(kA, pA)] = true := by decide +kernel
theorem rwat_one (w : World) (a b : ByteArray) : RwAt (w.alloc (.cells #[.string a, .string b] 46)) (.slice (some ⟨w.heap.size, 0, none⟩) 1 1) [(a, b)] := by
  refine .inr ⟨⟨w.heap.size, 0, none⟩, 1, rfl, Nat.le_refl _, by decide, fun i hi => ?_⟩
  obtain rfl : i = 0 := by simpa using hi
  exact ⟨cells_lit w #[.string a, .string b] _ 0 _ rfl, cells_lit w #[.string a, .string b] _ 1 _ rfl⟩
def RA : List Rw := plAll xA 4 4 xA wA 0 true pA ++ [(kA, pA)]
def nW : ByteArray := ⟨#[84, 77, 95, 67, 85, 82, 82, 69, 78, 84, 95, 87, 79, 82, 68]⟩
def nB : ByteArray := ⟨#[84, 77, 95, 70, 73, 76, 69, 78, 65, 77, 69, 95, 66, 65, 83, 69]⟩
theorem ra_word : getV nW RA = wA ∧ getB nW RA = true := by unfold RA plAll; generalize itoaS 0 = i0; generalize itoaS (0 + 1) = i1; constructor <;> kernel_rfl
theorem ra_base : getV nB RA = ⟨#[98, 46, 99]⟩ ∧ getB nB RA = true := by unfold RA plAll; generalize itoaS 0 = i0; generalize itoaS (0 + 1) = i1; constructor <;> kernel_rfl
set_option maxHeartbeats 2000000 in
theorem known_uuid (w : World) : Calls Tryd.prog 17 #[.string ⟨#[85, 85, 73, 68]⟩] w fun e w' => e = .returned (.bool true) ∧ w = w' := by
  go_enter Tryd.func17, Tryd.ntmps17
  go_wp2
  go_ret
  exact ⟨rfl, rfl⟩
set_option maxHeartbeats 8000000 in
theorem awake23_any (w : World) : Calls Tryd.prog 11 #[] w fun e w' => e = .returned (.bool true) ∧ Below w.heap.size w w' := by
  have HO := hide (of23_b xA w (by decide))
  obtain ⟨f1, f2, f3, f4⟩ := a_facts
  have hP := fun (W : World) (r : Nat) (v0 : Value) (h : LnAt W r xA) (he : RwAt W v0 [(kA, pA)]) => place_any h (by decide) 4 4 4 4 0 0 5 4 v0 [(kA, pA)] he (by decide) (by decide) (by decide) (by decide) f1 f2 f3 (by decide) (by decide) (by decide) (by decide) xA wA pA true a_line a_word a_path.1 a_path.2 (by decide) (it_small W 0 (by decide)) (it_small W 1 (by decide)) f4
  have HP := hide (show ∀ (W : World) (r : Nat) (v0 : Value) (h : LnAt W r xA) (he : RwAt W v0 [(kA, pA)]), Calls Tryd.prog 22 #[.agg #[.pointer (some ⟨r, 0, none⟩)], .agg #[.int .i64 4, .int .i64 4], v0] W (VPost W RA) from hP)
  have hl : RA.length ≤ 1000 := by
    have : RA.length = 8 := by unfold RA plAll; generalize itoaS 0 = i0; generalize itoaS (0 + 1) = i1; kernel_rfl
    omega
  have HG1 := hide (fun (W : World) (v : Value) (h : RwAt W v RA) => get_any v RA nW ⟨#[99, 100]⟩ true W h hl ra_word.1 ra_word.2)
  have HG2 := hide (fun (W : World) (v : Value) (h : RwAt W v RA) => get_any v RA nB ⟨#[98, 46, 99]⟩ true W h hl ra_base.1 ra_base.2)
  clear hP f1 f2 f3 f4 hl
  go_enter Tryd.func11, Tryd.ntmps11
  go_wp2_with fail
  refine HO.out.mono ?_
  rintro e w1 ⟨r, rfl, hL, hb1, _⟩
  have c0 := ln_c0 w1 r
  have hb1 := bl_trans hb1 (ln_b0 w1 r)
  have hbx := bl_alloc (bl_refl (w1.alloc (.cells #[.pointer (some ⟨r, 0, none⟩)] 42))) (.cells #[.string kA, .string pA] 46)
  have HL := hide (hL.bl (bl_trans (ln_b0 w1 r) hbx))
  have HB1 := hide (bl_trans hb1 hbx)
  have HE := hide (rwat_one (w1.alloc (.cells #[.pointer (some ⟨r, 0, none⟩)] 42)) kA pA)
  have hsz : (w1.alloc (.cells #[.pointer (some ⟨r, 0, none⟩)] 42)).heap.size = w1.heap.size + 1 := by simp
  rw [hsz] at HE
  have HPP := hide (HP.out _ _ _ HL.out HE.out)
  clear hL HO hb1 hbx hsz HP HL HE
  go_wp2_with fail
  refine HPP.out.mono ?_
  rintro e w2 ⟨v2, rfl, hb2, ho2⟩
  have HV := hide (own_rwat ho2)
  have HB2 := hide (bl_trans HB1.out hb2)
  clear ho2 hb2 HB1 HPP
  go_wp2_with fail
  refine (HG1.out _ _ HV.out).mono ?_
  rintro e w3 ⟨rfl, hb3⟩
  have HV3 := hide (rwat_below HV.out hb3)
  have HB3 := hide (bl_trans HB2.out hb3)
  clear hb3 HV HB2
  go_wp2_with fail
  refine (HG2.out _ _ HV3.out).mono ?_
  rintro e w4 ⟨rfl, hb4⟩
  have HB4 := hide (bl_trans HB3.out hb4)
  clear hb4 HV3 HB3
  go_wp2_with fail
  refine (known_uuid _).mono ?_
  rintro e w5 ⟨rfl, hw5⟩
  subst hw5
  go_wp2
  go_ret
  exact ⟨rfl, HB4.out⟩
end
end Go.Proofs.YtmjadcjpgcbalaaDoor
