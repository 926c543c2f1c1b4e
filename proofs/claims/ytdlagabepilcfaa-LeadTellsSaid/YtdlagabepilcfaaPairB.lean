/- Contracts: is an environment too much; the first value of a name; the unit. No condition but short texts and slices. -/
import Derived.Test.YtdlagabepilcfaaPairA
import Derived.Test.YtdlagabepilcfaaLong
import Derived.Test.YtdlagabepilcfaaLeadB
import Derived.Deep.QuietTactic
import Derived.BigQuiet
import Derived.Deep.RegionHeld3
import Derived.Deep.DrawnRows
namespace Go.Proofs.Ytdlagabepilcfaa
open Go.ChangeShapes Go.WideShapes Go.ChangeAt Go.RowKit
open SetM
attribute [local go_sem ↓] Go.wp_at_zero Go.wp_at_succ
theorem long2_any (m : Int) (s1 s2 : ByteArray) (b : Nat) (r : Bool) (w : World) (h0 : w.cell? ⟨b, 0, none⟩ = some (.string s1)) (h1 : w.cell? ⟨b, 1, none⟩ = some (.string s2)) (z1 : s1.size ≤ maxLen) (z2 : s2.size ≤ maxLen) (hm : 0 ≤ m) (hm2 : m ≤ 1000000) (hr : longL m [s1, s2] = r) :
    Calls Try.prog 15 #[.int .i64 m, .slice (some ⟨b, 0, none⟩) 2 2] w fun e w' => e = .returned (.bool r) ∧ w = w' := by
  subst hr
  have hz : IsStrs w (some ⟨b, 0, none⟩) 2 2 [s1, s2] := .inr ⟨_, rfl, Nat.le_refl _, by simp [maxLen], rfl, fun i hi => by
    rw [addr_add, Nat.zero_add]
    match i, hi with
    | 0, _ => exact h0
    | 1, _ => exact h1, by simp [z1, z2]⟩
  exact long_any w m _ 2 2 [s1, s2] hz hm hm2
theorem long2_no (m : Int) (s1 s2 : ByteArray) (h : longL m [s1, s2] = false) : (s1.size : Int) < m ∧ (s2.size : Int) < m - s1.size - 1 := by
  unfold longL at h
  split at h
  · cases h
  · unfold longL at h
    split at h
    · cases h
    · omega
def MuchOk (l : List Rw) (mn n : Nat) : Prop := l.length ≤ mn ∧ ∀ s ∈ l, s.1.size ≤ n ∧ s.2.size ≤ n
def MuchPost (l : List Rw) (mn n : Nat) (w : World) (e : Ending) (w' : World) : Prop := ∃ r, e = .returned (.bool r) ∧ Below w.heap.size w w' ∧ Hid (r = false → MuchOk l mn n)
def MRel (l : List Rw) (n : Nat) (w : World) (m i : Value) (wr : World) : Prop :=
  ∃ (k : Nat) (m' : Int), i = .int .i64 k ∧ m = .int .i64 m' ∧ k ≤ l.length ∧ 0 ≤ m' ∧ m' ≤ n ∧ Hid (∀ j (hj : j < l.length), j < k → l[j].1.size ≤ n ∧ l[j].2.size ≤ n) ∧ Below w.heap.size w wr
set_option maxRecDepth 100000 in
set_option maxHeartbeats 4000000 in
theorem env_any (v : Value) (l : List Rw) (mn n : Nat) (w : World) (h : RwAt w v l) (hmn : mn ≤ 1000) (hn : n ≤ 100000) (hsz : ∀ s ∈ l, s.1.size ≤ maxLen ∧ s.2.size ≤ maxLen) :
    Calls Try.prog 8 #[.int .i64 (mn : Int), .int .i64 (n : Int), v] w (MuchPost l mn n w) := by
  have HW := hide h
  have HSZ := hide hsz
  obtain ⟨aA, cA, rfl⟩ := rwat_len h
  have hlm : l.length ≤ 2 ^ 63 - 1 := by
    rcases h with ⟨_, h1⟩ | ⟨x, c, _, h1, h2, _⟩
    · rw [h1]; simp
    · unfold maxLen at h2; omega
  clear h hsz
  by_cases hbig : mn < l.length
  · go_enter Try.func8, Try.ntmps8
    go_wp2
    go_ret
    exact ⟨true, rfl, bl_refl w, hide (fun h => by cases h)⟩
  · go_enter Try.func8, Try.ntmps8
    go_wp2
    go_loopw [1, 7] (fun m i wr => MRel l n w m i wr) (fun _ i _ => l.length - (intOf i).toNat)
    case atStart => exact ⟨0, n, rfl, rfl, Nat.zero_le _, by omega, Int.le_refl _, hide (fun j _ hj => by omega), bl_refl w⟩
    case round =>
      obtain ⟨k, m, rfl, rfl, hk, hm0, hmn', HT, hbl⟩ := hrel
      by_cases hlt : k < l.length
      · obtain ⟨b1, o1, c1, hv1, hc1, hm1, hlb1, hcell1⟩ := rwat_some (rwat_below HW.out hbl) (by omega)
        injection hv1 with hv1 _ hv1c
        subst hv1 hv1c
        unfold maxLen at hm1
        obtain ⟨x1, x2⟩ := hcell1 k hlt
        have hss := HSZ.out l[k] (List.getElem_mem hlt)
        have HZ1 := hide hss.1
        have HZ2 := hide hss.2
        obtain ⟨r, hr⟩ : ∃ r, longL m [l[k].1, l[k].2] = r := ⟨_, rfl⟩
        have HR := hide hr
        have HNO := hide (fun e : r = false => long2_no m l[k].1 l[k].2 (hr.trans e))
        have hnx : r = false → ∀ j (hj : j < l.length), j < k + 1 → l[j].1.size ≤ n ∧ l[j].2.size ≤ n := fun e j hj hjk => by
          by_cases hjk2 : j = k
          · subst hjk2; have := HNO.out e; omega
          · exact HT.out j hj (by omega)
        have HNX := hide hnx
        clear hcell1 hss hr hnx HT
        obtain ⟨s, hs⟩ : ∃ s, l[k] = s := ⟨_, rfl⟩
        rw [hs] at x1 x2 HZ1 HZ2 HR HNO
        obtain ⟨s1, s2⟩ := s
        try simp only at x1 x2 HZ1 HZ2 HR HNO
        clear hs
        go_wp2
        go_region_held3 (fun w' => w'.cell? ⟨b1, o1 + k * 2, none⟩ = some (.string s1) ∧ w'.cell? ⟨b1, o1 + k * 2 + 1, none⟩ = some (.string s2)) (go_keep)
          (first | (go_at_call 15; refine (long2_any m s1 s2 _ r _ (by go_simp) (by go_simp) HZ1.out HZ2.out (by omega) (by omega) HR.out).mono ?_; rintro e w1 ⟨rfl, rfl⟩))
        all_goals
          cases r
          · obtain ⟨hz1, hz2⟩ := HNO.out rfl
            have HT2 := hide (HNX.out rfl)
            have hbl2 : ∀ o q, Below w.heap.size w ((wr.alloc o).drewN q) := fun o q => bl_drewN (bl_alloc hbl o) q
            clear HNO HNX HR HZ1 HZ2
            go_wp2
            go_quiet (fail)
            go_wp2
            refine ⟨?_, by first | (simp [intOf]; done) | (simp [intOf]; omega)⟩
            exact ⟨k + 1, m - s1.size - s2.size, by go_num, rfl, by omega, by omega, by omega, HT2, hbl2 _ _⟩
          · go_wp2
            go_ret
            exact ⟨true, rfl, bl_drew (bl_alloc hbl _), hide (fun h => by cases h)⟩
      · have hok : MuchOk l mn n := ⟨by omega, fun s hs => by
          obtain ⟨i, hi, rfl⟩ := List.getElem_of_mem hs
          exact HT.out i hi (by omega)⟩
        have HOK := hide (show MuchPost l mn n w (.returned (.bool false)) wr from ⟨false, rfl, hbl, hide (fun _ => hok)⟩)
        clear HT hok
        go_wp2
        go_ret
        exact HOK.out

def getV (nm : ByteArray) : List Rw → ByteArray
  | [] => ⟨#[]⟩
  | s :: r => if eqB s.1 nm = true then s.2 else getV nm r
def getB (nm : ByteArray) (l : List Rw) : Bool := l.any fun s => eqB s.1 nm
theorem getV_drop (nm : ByteArray) (l : List Rw) (k : Nat) (h : k < l.length) (hn : eqB l[k].1 nm = false) : getV nm (l.drop k) = getV nm (l.drop (k + 1)) := by
  rw [List.drop_eq_getElem_cons h, getV, if_neg (by rw [hn]; simp)]
theorem getV_at (nm : ByteArray) (l : List Rw) (k : Nat) (h : k < l.length) (hn : eqB l[k].1 nm = true) : getV nm (l.drop k) = l[k].2 := by
  rw [List.drop_eq_getElem_cons h, getV, if_pos hn]
theorem getB_drop (nm : ByteArray) (l : List Rw) (k : Nat) (h : k < l.length) (hn : eqB l[k].1 nm = false) : getB nm (l.drop k) = getB nm (l.drop (k + 1)) := by
  unfold getB; rw [List.drop_eq_getElem_cons h, List.any_cons, hn]; rfl
theorem getB_at (nm : ByteArray) (l : List Rw) (k : Nat) (h : k < l.length) (hn : eqB l[k].1 nm = true) : getB nm (l.drop k) = true := by
  unfold getB; rw [List.drop_eq_getElem_cons h, List.any_cons, hn]; rfl
set_option maxRecDepth 100000 in
set_option maxHeartbeats 2000000 in
theorem rget_any (v : Value) (l : List Rw) (nm X : ByteArray) (b : Bool) (w : World) (h : RwAt w v l) (hl : l.length ≤ 1000) (hX : getV nm l = X) (hb : getB nm l = b) :
    Calls Try.prog 10 #[.string nm, v] w fun e w' => e = .returned (.tuple #[.string X, .bool b]) ∧ w = w' := by
  have HW := hide h
  have HX := hide hX
  have HB := hide hb
  obtain ⟨aA, cA, rfl⟩ := rwat_len h
  clear h hX hb
  go_enter Try.func10, Try.ntmps10
  go_wp2
  go_loopw [6] (fun i wr => ∃ k : Nat, i = .int .i64 k ∧ k ≤ l.length ∧ Hid (getV nm (l.drop k) = X) ∧ Hid (getB nm (l.drop k) = b) ∧ w = wr) (fun i _ => l.length - (intOf i).toNat)
  case atStart => exact ⟨0, rfl, Nat.zero_le _, HX, HB, rfl⟩
  case round =>
    obtain ⟨k, rfl, hk, HV, HG, rfl⟩ := hrel
    by_cases hlt : k < l.length
    · obtain ⟨b1, o1, c1, hv1, hc1, hm1, hlb1, hcell1⟩ := rwat_some HW.out (by omega)
      injection hv1 with hv1 _ hv1c
      subst hv1 hv1c
      unfold maxLen at hm1
      obtain ⟨x1, x2⟩ := hcell1 k hlt
      obtain ⟨r, hr⟩ : ∃ r, eqB l[k].1 nm = r := ⟨_, rfl⟩
      have hr2 : (l[k].1.toList == nm.toList) = r := hr
      cases r
      · have HV2 := hide ((getV_drop nm l k hlt hr).symm.trans HV.out)
        have HG2 := hide ((getB_drop nm l k hlt hr).symm.trans HG.out)
        clear hr HV HG hcell1
        generalize l[k] = s at *
        go_wp2
        refine ⟨?_, by first | (simp [intOf]; done) | (simp [intOf]; omega)⟩
        first
          | exact ⟨k + 1, by go_num, by omega, HV2, HG2, by first | rfl | trivial⟩
          | ((repeat apply Exists.intro); exact ⟨⟨k + 1, by go_num, by omega, HV2, HG2, by first | rfl | trivial⟩, rfl⟩)
      · have e1 := (getV_at nm l k hlt hr).symm.trans HV.out
        have e2 := (getB_at nm l k hlt hr).symm.trans HG.out
        rw [e1] at x2
        obtain ⟨s1, hs1⟩ : ∃ s1, l[k].1 = s1 := ⟨_, rfl⟩
        rw [hs1] at x1 hr2
        subst e2
        clear hr HV HG hcell1 HX HB hs1 e1
        go_wp2
        go_ret2
        exact ⟨rfl, rfl⟩
    · obtain rfl : k = l.length := by omega
      have e1 := HV.out
      have e2 := HG.out
      rw [List.drop_length] at e1 e2
      have e1' : (⟨#[]⟩ : ByteArray) = X := e1
      have e2' : false = b := e2
      subst e1' e2'
      clear e1 e2 HV HG HX HB hlt
      go_wp2
      go_ret2
      exact ⟨rfl, rfl⟩
theorem clos_any (s : Rw) (nm : ByteArray) (b : Nat) (r : Bool) (w : World) (h : w.cell? ⟨b, 0, none⟩ = some (.string nm)) (hr : eqB s.1 nm = r) :
    Calls Try.prog 24 #[.agg #[.string s.1, .string s.2], .pointer (some ⟨b, 0, none⟩)] w fun e w' => e = .returned (.bool r) ∧ Below w.heap.size w w' := by
  have hlt : b < w.heap.size := World.block_lt_of_cell? w _ h
  have hne : b ≠ w.heap.size := by omega
  have hr2 : (s.1.toList == nm.toList) = r := hr
  clear hr
  obtain ⟨s1, s2⟩ := s
  try simp only at hr2
  go_enter Try.func24, Try.ntmps24
  go_wp2
  go_ret
  exact ⟨rfl, bl_alloc (bl_refl w) _⟩
def IdxPost (l : List Rw) (nm : ByteArray) (w : World) (e : Ending) (w' : World) : Prop :=
  ∃ j : Int, e = .returned (.int .i64 j) ∧ Below w.heap.size w w' ∧ Hid ((j = -1 ∧ getV nm l = ⟨#[]⟩ ∧ getB nm l = false) ∨ ∃ (k : Nat) (h : k < l.length), j = k ∧ getV nm l = l[k].2 ∧ getB nm l = true)
set_option maxRecDepth 100000 in
set_option maxHeartbeats 2000000 in
theorem idx_any (v : Value) (l : List Rw) (nm : ByteArray) (b : Nat) (w : World) (h : RwAt w v l) (hl : l.length ≤ 1000) (hc : w.cell? ⟨b, 0, none⟩ = some (.string nm)) :
    Calls Try.prog 23 #[v, .func (.func 24) #[] #[.pointer (some ⟨b, 0, none⟩)]] w (IdxPost l nm w) := by
  have HW := hide h
  have HC := hide hc
  obtain ⟨aA, cA, rfl⟩ := rwat_len h
  clear h hc
  go_enter Try.func23, Try.ntmps23
  go_wp2
  go_loopw [8] (fun i wr => ∃ k : Nat, i = .int .i64 k ∧ k ≤ l.length ∧ Hid (getV nm (l.drop k) = getV nm l) ∧ Hid (getB nm (l.drop k) = getB nm l) ∧ Below w.heap.size w wr) (fun i _ => l.length - (intOf i).toNat)
  case atStart => exact ⟨0, rfl, Nat.zero_le _, hide rfl, hide rfl, bl_refl w⟩
  case round =>
    obtain ⟨k, rfl, hk, HV, HG, hbl⟩ := hrel
    by_cases hlt : k < l.length
    · obtain ⟨b1, o1, c1, hv1, hc1, hm1, hlb1, hcell1⟩ := rwat_some (rwat_below HW.out hbl) (by omega)
      injection hv1 with hv1 _ hv1c
      subst hv1 hv1c
      unfold maxLen at hm1
      obtain ⟨x1, x2⟩ := hcell1 k hlt
      obtain ⟨r, hr⟩ : ∃ r, eqB l[k].1 nm = r := ⟨_, rfl⟩
      have HCL := hide (fun W (hW : W.cell? ⟨b, 0, none⟩ = some (.string nm)) => clos_any l[k] nm b r W hW hr)
      have HCN := hide (cell_later hbl HC.out)
      cases r
      · have HV2 := hide ((getV_drop nm l k hlt hr).symm.trans HV.out)
        have HG2 := hide ((getB_drop nm l k hlt hr).symm.trans HG.out)
        clear hr HV HG hcell1
        generalize l[k] = s at *
        go_wp2_with (go_at_call 24; refine (HCL.out _ HCN.out).mono ?_; rintro e w1 ⟨rfl, hb1⟩)
        refine ⟨?_, by first | (simp [intOf]; done) | (simp [intOf]; omega)⟩
        have hb2 := bl_trans hbl hb1
        first
          | exact ⟨k + 1, by go_num, by omega, HV2, HG2, hb2⟩
          | ((repeat apply Exists.intro); exact ⟨⟨k + 1, by go_num, by omega, HV2, HG2, hb2⟩, rfl⟩)
      · have HP := hide (show ∀ W, Below w.heap.size w W → IdxPost l nm w (.returned (.int .i64 k)) W from fun W hW => ⟨k, rfl, hW, hide (.inr ⟨k, hlt, rfl, by rw [← HV.out, getV_at nm l k hlt hr], by rw [← HG.out, getB_at nm l k hlt hr]⟩)⟩)
        clear hr HV HG hcell1
        generalize l[k] = s at *
        go_wp2_with (go_at_call 24; refine (HCL.out _ HCN.out).mono ?_; rintro e w1 ⟨rfl, hb1⟩)
        go_ret
        exact HP.out _ (bl_trans hbl hb1)
    · obtain rfl : k = l.length := by omega
      have e1 := HV.out
      have e2 := HG.out
      rw [List.drop_length] at e1 e2
      have HP := hide (show IdxPost l nm w (.returned (.int .i64 (-1))) wr from ⟨-1, rfl, hbl, hide (.inl ⟨rfl, e1.symm, e2.symm⟩)⟩)
      clear e1 e2 HV HG hlt
      go_wp2
      go_ret
      exact HP.out
set_option maxRecDepth 100000 in
set_option maxHeartbeats 2000000 in
theorem get_any (v : Value) (l : List Rw) (nm X : ByteArray) (b : Bool) (w : World) (h : RwAt w v l) (hl : l.length ≤ 1000) (hX : getV nm l = X) (hb : getB nm l = b) :
    Calls Try.prog 19 #[.string nm, v] w fun e w' => e = .returned (.tuple #[.string X, .bool b]) ∧ Below w.heap.size w w' := by
  have HW := hide h
  have HX := hide hX
  have HB := hide hb
  obtain ⟨aA, cA, rfl⟩ := rwat_len h
  clear h hX hb
  go_enter Try.func19, Try.ntmps19
  go_wp2_with fail
  have hfind : Calls Try.prog 21 #[.string nm, .slice aA l.length cA] w (IdxPost l nm w) := by
    have HW1 := hide (rwat_below HW.out (bl_alloc (bl_refl w) (.cells #[.string nm] 9)))
    have hcc : (w.alloc (.cells #[.string nm] 9)).cell? ⟨w.heap.size, 0, none⟩ = some (.string nm) := by go_simp
    have HCC := hide hcc
    clear hcc
    go_enter Try.func21, Try.ntmps21
    go_wp2_with fail
    refine (idx_any _ l nm w.heap.size _ HW1.out hl HCC.out).mono ?_
    rintro e w1 ⟨j, rfl, hb1, HJ⟩
    have HP := hide (show IdxPost l nm w (.returned (.int .i64 j)) w1 from ⟨j, rfl, bl_trans (bl_alloc (bl_refl w) _) hb1, HJ⟩)
    go_wp2
    go_ret
    exact HP.out
  refine hfind.mono ?_
  clear hfind
  rintro e w1 ⟨j, rfl, hb1, HJ⟩
  rcases HJ.out with ⟨rfl, h1, h2⟩ | ⟨k, hk, rfl, h1, h2⟩
  · have e1 := h1.symm.trans HX.out
    have e2 := h2.symm.trans HB.out
    subst e1 e2
    clear h1 h2 HJ HX HB
    go_wp2
    go_ret2
    exact ⟨rfl, hb1⟩
  · have e1 := h1.symm.trans HX.out
    have e2 := h2.symm.trans HB.out
    subst e2
    obtain ⟨b1, o1, c1, hv1, hc1, hm1, hlb1, hcell1⟩ := rwat_some (rwat_below HW.out hb1) (by omega)
    injection hv1 with hv1 _ hv1c
    subst hv1 hv1c
    unfold maxLen at hm1
    obtain ⟨x1, x2⟩ := hcell1 k hk
    rw [e1] at x2
    have hk0 : decide ((k : Int) < 0) = false := by simp
    clear h1 h2 HJ HX HB hcell1 e1
    go_wp2
    go_ret2
    exact ⟨rfl, hb1⟩
theorem unit_any (v : Value) (l : List Rw) (X : ByteArray) (w : World) (h : RwAt w v l) (hl : l.length ≤ 1000) (hX : getV ⟨#[73, 78, 68, 69, 78, 84]⟩ l = X) :
    Calls Try.prog 13 #[v] w fun e w' => e = .returned (.string X) ∧ Below w.heap.size w w' := by
  have HW := hide h
  have HX := hide hX
  clear h hX
  go_enter Try.func13, Try.ntmps13
  go_wp2_with fail
  refine (get_any v l _ X _ _ HW.out hl HX.out rfl).mono ?_
  rintro e w1 ⟨rfl, hb1⟩
  go_wp2
  go_ret
  exact ⟨rfl, hb1⟩
end Go.Proofs.Ytdlagabepilcfaa
