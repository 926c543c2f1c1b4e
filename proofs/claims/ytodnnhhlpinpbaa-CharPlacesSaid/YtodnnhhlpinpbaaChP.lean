/- Contracts of package char: Continues, First, Split, Fold; the layer's awake. -/
import Derived.Test.YtodnnhhlpinpbaaEach
import Derived.Deep.QuietTactic
import Derived.BigQuiet
import Derived.Deep.Draws
namespace Go.Proofs.Ytodnnhhlpinpbaa
open Go.ChangeShapes Go.WideShapes Go.ChangeAt Go.RowKit
def contB (c : UInt8) : Bool := decide (128 ≤ c.toNat ∧ c.toNat ≤ 191)
def chGo : List UInt8 → List UInt8 → List (List UInt8)
  | [], acc => [acc]
  | c :: r, acc => if contB c = true then chGo r (acc ++ [c]) else acc :: chGo r [c]
def splitL : List UInt8 → List (List UInt8)
  | [] => []
  | c :: r => chGo r [c]
def firstN : List UInt8 → Nat
  | [] => 0
  | _ :: r => 1 + (r.takeWhile contB).length
theorem chGo_eq (r acc : List UInt8) : chGo r acc = (acc ++ r.takeWhile contB) :: splitL (r.drop (r.takeWhile contB).length) := by
  induction r generalizing acc with
  | nil => simp [chGo, splitL]
  | cons c t ih =>
    rw [chGo]
    cases hc : contB c
    · rw [if_neg (by simp), List.takeWhile_cons, hc]; simp [splitL]
    · rw [if_pos rfl, ih, List.takeWhile_cons, hc]; simp
theorem splitL_eq (l : List UInt8) (h : 0 < l.length) : splitL l = l.take (firstN l) :: splitL (l.drop (firstN l)) := by
  cases l with
  | nil => simp at h
  | cons c r =>
    rw [splitL, chGo_eq, firstN, Nat.add_comm 1, List.take_succ_cons, List.drop_succ_cons]
    congr 1
    rw [List.singleton_append]
    congr 1
    exact List.prefix_iff_eq_take.1 (List.takeWhile_prefix contB)
theorem firstN_le (l : List UInt8) : firstN l ≤ l.length := by
  cases l with
  | nil => exact Nat.le_refl _
  | cons c r => rw [firstN, List.length_cons]; have := (List.takeWhile_prefix contB (l := r)).length_le; omega
theorem firstN_pos (l : List UInt8) (h : 0 < l.length) : 1 ≤ firstN l := by
  cases l with
  | nil => simp at h
  | cons c r => rw [firstN]; omega
theorem ne_bytes (s : ByteArray) (h : 0 < s.size) : s.toList.isEmpty = false := by
  rw [Go.ByteArray.toList_eq]
  have : s.data.toList.length = s.size := by simp
  cases hl : s.data.toList with
  | nil => rw [hl] at this; simp at this; omega
  | cons a r => rfl
theorem e_bytes (s : ByteArray) (h : s.size = 0) : s.toList.isEmpty = true := by
  rw [Go.ByteArray.toList_eq]
  have : s.data.toList.length = s.size := by simp
  cases hl : s.data.toList with
  | nil => rfl
  | cons a r => rw [hl] at this; simp at this; omega
theorem ext_data (s : ByteArray) (a b : Nat) : (s.extract a b).data.toList = (s.data.toList.take b).drop a := by
  rw [ByteArray.data_extract]
  simp only [Array.toList_extract, List.extract_eq_take_drop]
  rw [List.drop_take]
set_option maxRecDepth 100000 in
set_option maxHeartbeats 1000000 in
theorem cont_any (c : UInt8) (w : World) : Calls Try.prog 29 #[.int .u8 (c.toNat : Int)] w fun e w' => e = .returned (.bool (contB c)) ∧ w = w' := by
  have hc : (c.toNat : Int) < 256 := by have := c.toNat_lt; omega
  have HW : Hid (contB c = decide (128 ≤ c.toNat ∧ c.toNat ≤ 191)) := hide rfl
  generalize contB c = b at *
  generalize c.toNat = n at *
  go_enter Try.func29, Try.ntmps29
  go_wp2
  all_goals
    go_ret
    exact ⟨ret_bool (by rw [HW.out, Bool.eq_iff_iff]; first | (simp; done) | (simp; omega) | omega), rfl⟩
theorem tw_at (r : List UInt8) (j : Nat) (h : j < r.length) (hp : j ≤ (r.takeWhile contB).length) (hc : contB r[j] = true) : j + 1 ≤ (r.takeWhile contB).length := by
  induction r generalizing j with
  | nil => simp at h
  | cons c t ih =>
    rw [List.takeWhile_cons] at hp ⊢
    cases hcc : contB c
    · rw [hcc] at hp
      have : j = 0 := by simpa using hp
      subst this
      rw [List.getElem_cons_zero, hcc] at hc; cases hc
    · rw [hcc] at hp
      simp only [if_true, List.length_cons] at hp ⊢
      cases j with
      | zero => omega
      | succ j => simp at h hc; have := ih j h (by omega) hc; omega
theorem tw_end (r : List UInt8) (j : Nat) (h : j < r.length) (hp : j ≤ (r.takeWhile contB).length) (hc : contB r[j] = false) : j = (r.takeWhile contB).length := by
  induction r generalizing j with
  | nil => simp at h
  | cons c t ih =>
    rw [List.takeWhile_cons] at hp ⊢
    cases hcc : contB c
    · rw [hcc] at hp
      simpa using hp
    · rw [hcc] at hp
      simp only [if_true, List.length_cons] at hp ⊢
      cases j with
      | zero => rw [List.getElem_cons_zero, hcc] at hc; cases hc
      | succ j => simp at h hc; have := ih j h (by omega) hc; omega
theorem fn_step (l : List UInt8) (k : Nat) (h1 : 1 ≤ k) (h : k < l.length) (hp : k ≤ firstN l) (hc : contB l[k] = true) : k + 1 ≤ firstN l := by
  cases l with
  | nil => simp at h
  | cons c r =>
    obtain ⟨j, rfl⟩ : ∃ j, k = j + 1 := ⟨k - 1, by omega⟩
    rw [firstN] at hp ⊢
    simp at h hc
    have := tw_at r j h (by omega) hc
    omega
theorem fn_end (l : List UInt8) (k : Nat) (h1 : 1 ≤ k) (h : k < l.length) (hp : k ≤ firstN l) (hc : contB l[k] = false) : firstN l = k := by
  cases l with
  | nil => simp at h
  | cons c r =>
    obtain ⟨j, rfl⟩ : ∃ j, k = j + 1 := ⟨k - 1, by omega⟩
    rw [firstN] at hp ⊢
    simp at h hc
    have := tw_end r j h (by omega) hc
    omega
set_option maxRecDepth 100000 in
set_option maxHeartbeats 2000000 in
theorem first_any (s : ByteArray) (w : World) (hs : s.size ≤ 1000000) :
    Calls Try.prog 15 #[.string s] w fun e w' => e = .returned (.string (s.extract 0 (firstN s.data.toList))) ∧ w = w' := by
  by_cases h0 : 0 < s.size
  · have hne := ne_bytes s h0
    obtain ⟨m, hm⟩ : ∃ m, firstN s.data.toList = m := ⟨_, rfl⟩
    have HM := hide hm
    have hm1 : 1 ≤ m := by rw [← hm]; exact firstN_pos _ (by rw [len_data]; exact h0)
    have hm2 : m ≤ s.size := by rw [← hm, ← len_data]; exact firstN_le _
    rw [hm]
    clear hm
    go_enter Try.func15, Try.ntmps15
    go_wp2
    go_loopw [3] (fun i wr => ∃ k : Nat, i = .int .i64 k ∧ 1 ≤ k ∧ k ≤ m ∧ w = wr)
      (fun i _ => s.size - (intOf i).toNat)
    case atStart => exact ⟨1, rfl, Nat.le_refl _, hm1, rfl⟩
    case round =>
      obtain ⟨k, rfl, hk1, hkm, rfl⟩ := hrel
      by_cases hlt : k < s.size
      · have hkl : k < s.data.toList.length := by simpa using hlt
        have hsk : s.data.toList[k] = s[k] := rfl
        cases hc : contB s[k]
        · have hmk : m = k := by rw [← HM.out]; exact fn_end _ k hk1 hkl (by rw [HM.out]; exact hkm) (by rw [hsk]; exact hc)
          have HC := hide hc
          clear hc hsk HM
          subst hmk
          go_wp2_with (go_at_call 29; refine (cont_any s[m] _).mono ?_; rintro e w1 ⟨rfl, rfl⟩; rw [HC.out])
          go_ret
          exact ⟨rfl, rfl⟩
        · have hmk : k + 1 ≤ m := by rw [← HM.out]; exact fn_step _ k hk1 hkl (by rw [HM.out]; exact hkm) (by rw [hsk]; exact hc)
          have HC := hide hc
          clear hc hsk
          go_wp2_with (go_at_call 29; refine (cont_any s[k] _).mono ?_; rintro e w1 ⟨rfl, rfl⟩; rw [HC.out])
          refine ⟨?_, by first | (simp [intOf]; done) | (simp [intOf]; omega)⟩
          first
            | exact ⟨k + 1, by go_num, by omega, hmk, by first | rfl | trivial⟩
            | ((repeat apply Exists.intro); exact ⟨⟨k + 1, by go_num, by omega, hmk, by first | rfl | trivial⟩, rfl⟩)
      · obtain rfl : m = k := by omega
        go_wp2
        go_ret
        exact ⟨rfl, rfl⟩
  · have hne := e_bytes s (by omega)
    have hl : s.data.toList = [] := List.eq_nil_of_length_eq_zero (by rw [len_data]; omega)
    have he : s.extract 0 (firstN s.data.toList) = ⟨#[]⟩ := by
      apply ByteArray.ext; apply Array.ext'
      rw [ext_data, hl]; rfl
    rw [he]
    clear he hl
    go_enter Try.func15, Try.ntmps15
    go_wp2
    go_ret
    exact ⟨rfl, rfl⟩
theorem firste_any (s X : ByteArray) (w : World) (hs : s.size ≤ 1000000) (hX : s.extract 0 (firstN s.data.toList) = X) :
    Calls Try.prog 15 #[.string s] w fun e w' => e = .returned (.string X) ∧ w = w' := by
  rw [← hX]; exact first_any s w hs
theorem cfold_any (s : ByteArray) (w : World) (hs : s.size ≤ 1000000) :
    Calls Try.prog 18 #[.string s] w fun e w' => e = .returned (.string (mapS downB s)) ∧ Below w.heap.size w w' := by
  go_enter Try.func18, Try.ntmps18
  go_wp2_with fail
  refine (each_down s _ hs).mono ?_
  rintro e w1 ⟨rfl, hb⟩
  go_wp2
  go_ret
  exact ⟨rfl, hb⟩
def szOf : Value → Nat
  | .string b => b.size
  | _ => 0
theorem info_str : (Try.prog.info? 9).map (fun i => (i.zero, i.size, i.bytes)) = some (some (.string ⟨#[]⟩), 1, 16) := by kernel_rfl
theorem info_int : (Try.prog.info? 3).map (fun i => (i.zero, i.size, i.bytes)) = some (some (.int .i64 0), 1, 8) := by kernel_rfl
set_option maxRecDepth 100000 in
set_option maxHeartbeats 2000000 in
theorem split_any (s : ByteArray) (w : World) (hs : s.size ≤ 100000) :
    Calls Try.prog 11 #[.string s] w fun e w' => ∃ (v : Value) (zs : List ByteArray), e = .returned v ∧ Below w.heap.size w w' ∧ w'.ownsRow w.heap.size 9 1 v zs.length (zs.map .string) ∧ Hid (zs.map (fun z => z.data.toList) = splitL s.data.toList) := by
  obtain ⟨i0, hi0, hz0', hz1, hz2⟩ := info_parts info_str
  go_enter Try.func11, Try.ntmps11
  go_wp2
  go_loopw [0, 3] (fun sv v wr => ∃ (S : ByteArray) (zs : List ByteArray), sv = .string S ∧ S.size + zs.length ≤ s.size ∧ Hid (splitL s.data.toList = zs.map (fun z => z.data.toList) ++ splitL S.data.toList) ∧ wr.ownsRow w.heap.size 9 1 v zs.length (zs.map .string) ∧ Below w.heap.size w wr)
    (fun sv _ _ => szOf sv)
  case atStart => exact ⟨s, [], rfl, Nat.le_refl _, hide rfl, ⟨rfl, .inl ⟨rfl, rfl⟩⟩, bl_refl w⟩
  case round =>
    obtain ⟨S, zs, rfl, hsz, HS, hv, hbl⟩ := hrel
    by_cases h0 : 0 < S.size
    · have hl0 : 0 < S.data.toList.length := by rw [len_data]; exact h0
      have hm1 := firstN_pos _ hl0
      have hm2 := firstN_le S.data.toList
      rw [len_data] at hm2
      have heq := splitL_eq _ hl0
      obtain ⟨m, hm⟩ : ∃ m, firstN S.data.toList = m := ⟨_, rfl⟩
      rw [hm] at hm1 hm2 heq
      obtain ⟨X, hX⟩ : ∃ X, S.extract 0 m = X := ⟨_, rfl⟩
      have hXd : X.data.toList = S.data.toList.take m := by rw [← hX, ext_data, List.drop_zero]
      have hXs : X.size = m := by rw [← hX, ByteArray.size_extract]; omega
      have hYd : (S.extract m S.size).data.toList = S.data.toList.drop m := by rw [ext_data, List.take_of_length_le (by rw [len_data]; omega)]
      have hYs : (S.extract m S.size).size = S.size - m := by rw [ByteArray.size_extract]; omega
      have HS2 : Hid (splitL s.data.toList = (zs ++ [X]).map (fun z => z.data.toList) ++ splitL (S.extract m S.size).data.toList) := hide (by
        rw [HS.out, heq, hYd, List.map_append, List.map_singleton, hXd, List.append_assoc]; rfl)
      have HX : Hid (S.extract 0 (firstN S.data.toList) = X) := hide (by rw [hm]; exact hX)
      clear hm heq hX hXd hYd HS
      go_wp2_with fail
      refine (firste_any S X _ (by omega) HX.out).mono ?_
      rintro e w1 ⟨rfl, rfl⟩
      have hbw := hbl.size
      go_wp2_with (at_builtin; (refine wpList_push wr rfl _ _ 23 rfl w.heap.size 9 i0 (.string ⟨#[]⟩) 1 16 Try.underlying23 hi0 hz0' hz1 hz2 rfl (by decide) u3 zs.length (zs.map .string) rfl hv 1 #[.string X] rfl rfl (by simp [Value.oneCell']) (by omega) (by decide) hbw ?_); intro v' w4 hv4 hg4 hat)
      have hbl4 : Below w.heap.size w w4 := bl_own hbl hv hg4 (Nat.le_refl _)
      have hv5 : w4.ownsRow w.heap.size 9 1 v' (zs ++ [X]).length ((zs ++ [X]).map .string) := by rw [List.map_append, List.length_append]; exact hv4
      have hl5 : (S.extract m S.size).size + (zs ++ [X]).length ≤ s.size := by rw [hYs, List.length_append, List.length_singleton]; omega
      refine ⟨?_, by simp only [szOf]; omega⟩
      first
        | exact ⟨S.extract m S.size, zs ++ [X], rfl, hl5, HS2, hv5, hbl4⟩
        | ((repeat apply Exists.intro); exact ⟨⟨S.extract m S.size, zs ++ [X], rfl, hl5, HS2, hv5, hbl4⟩, rfl⟩)
    · have hS : S.data.toList = [] := List.eq_nil_of_length_eq_zero (by rw [len_data]; omega)
      have HZ : Hid (zs.map (fun z => z.data.toList) = splitL s.data.toList) := hide (by rw [HS.out, hS]; simp [splitL])
      clear hS HS
      go_wp2
      go_ret
      exact ⟨_, zs, rfl, hbl, hv, HZ⟩
set_option maxRecDepth 100000 in
set_option maxHeartbeats 2000000 in
theorem places_nil (w : World) :
    Calls Try.prog 13 #[.string ⟨#[]⟩] w fun e w' => ∃ (A : Option Addr) (c : Nat), e = .returned (.slice A 1 c) ∧ Below w.heap.size w w' := by
  obtain ⟨i0, hi0, hz0', hz1, hz2⟩ := info_parts info_int
  go_enter Try.func13, Try.ntmps13
  go_wp2
  refine wp_loop_rounds 2 ?_
  rw [rounds_succ]
  go_wp2
  go_ret
  exact ⟨_, _, rfl, bl_drew (bl_alloc (bl_alloc (bl_refl w) _) _)⟩
theorem contc_any (c : UInt8) (n : Int) (b : Bool) (w : World) (hn : (c.toNat : Int) = n) (hb : contB c = b) : Calls Try.prog 29 #[.int .u8 n] w fun e w' => e = .returned (.bool b) ∧ w = w' := by
  rw [← hn, ← hb]; exact cont_any c w
theorem folde_any (s X : ByteArray) (w : World) (hs : s.size ≤ 1000000) (hX : mapS downB s = X) :
    Calls Try.prog 18 #[.string s] w fun e w' => e = .returned (.string X) ∧ Below w.heap.size w w' := by
  rw [← hX]; exact cfold_any s w hs
set_option maxRecDepth 100000 in
set_option maxHeartbeats 2000000 in
theorem proper_e (w : World) :
    Calls Try.prog 16 #[.string ⟨#[195, 169]⟩] w fun e w' => e = .returned (.bool true) ∧ w = w' := by
  go_enter Try.func16, Try.ntmps16
  go_wp2_with fail
  refine (contc_any 195 195 false _ rfl (by decide)).mono ?_
  rintro e w1 ⟨rfl, rfl⟩
  go_wp2_with fail
  refine (firste_any _ ⟨#[195, 169]⟩ _ (by decide) (by decide +kernel)).mono ?_
  rintro e w1 ⟨rfl, rfl⟩
  go_wp2
  go_ret
  exact ⟨rfl, rfl⟩
set_option maxRecDepth 100000 in
set_option maxHeartbeats 2000000 in
theorem awake11_any (w : World) :
    Calls Try.prog 8 #[] w fun e w' => e = .returned (.bool true) ∧ Below w.heap.size w w' := by
  go_enter Try.func8, Try.ntmps8
  go_wp2_with fail
  refine (split_any _ _ (by decide)).mono ?_
  rintro e w1 ⟨v, zs, rfl, hb1, hv, HZ⟩
  have hn : zs.length = 3 := by
    have h := congrArg List.length HZ.out
    rw [List.length_map] at h
    rw [h]
    decide
  obtain ⟨A, c, rfl⟩ := own_slice hv
  rw [hn]
  clear hv HZ hn
  go_wp2_with fail
  refine (places_nil _).mono ?_
  rintro e w2 ⟨A', c', rfl, hb2⟩
  go_wp2_with fail
  refine (proper_e _).mono ?_
  rintro e w3 ⟨rfl, rfl⟩
  go_wp2_with (fail)
  have hword : Calls Try.prog 20 #[.string ⟨#[95]⟩] w2 fun e w' => e = .returned (.bool true) ∧ w2 = w' := by
    go_enter Try.func20, Try.ntmps20
    go_wp2
    go_ret
    exact ⟨rfl, rfl⟩
  refine hword.mono ?_
  rintro e w3 ⟨rfl, rfl⟩
  clear hword
  go_wp2_with fail
  refine (folde_any _ ⟨#[97, 98]⟩ _ (by decide) (by decide +kernel)).mono ?_
  rintro e w3 ⟨rfl, hb3⟩
  go_wp2_with fail
  refine (firste_any _ ⟨#[120]⟩ _ (by decide) (by decide +kernel)).mono ?_
  rintro e w4 ⟨rfl, rfl⟩
  go_wp2
  go_ret
  exact ⟨rfl, (by repeat (first | exact bl_refl _ | assumption | refine bl_alloc ?_ _ | refine bl_drewN ?_ _ | refine bl_drew ?_ | refine bl_trans ?_ (by assumption)))⟩
section
open Go.ChangeShapes Go.WideShapes Go.ChangeAt Go.RowKit
/-- The places of what is left, the first byte of which stands at i. -/
def plGo : List UInt8 → Nat → List Nat
  | [], i => [i]
  | c :: r, i => if i = 0 ∨ contB c = false then i :: plGo r (i + 1) else plGo r (i + 1)
theorem plGo_on (l : List UInt8) (k : Nat) (h : k < l.length) (hc : k = 0 ∨ contB l[k] = false) : plGo (l.drop k) k = k :: plGo (l.drop (k + 1)) (k + 1) := by
  rw [List.drop_eq_getElem_cons h, plGo, if_pos hc]
theorem plGo_off (l : List UInt8) (k : Nat) (h : k < l.length) (h0 : ¬ k = 0) (hc : contB l[k] = true) : plGo (l.drop k) k = plGo (l.drop (k + 1)) (k + 1) := by
  rw [List.drop_eq_getElem_cons h, plGo, if_neg (by rw [hc]; simp [h0])]
theorem plGo_end (l : List UInt8) : plGo (l.drop l.length) l.length = [l.length] := by
  rw [List.drop_of_length_le (Nat.le_refl _)]; rfl
def natC (l : List Nat) : List Value := l.map fun (i : Nat) => Value.int .i64 (i : Int)
def PInv (s : ByteArray) (w : World) (v i : Value) (wr : World) : Prop :=
  ∃ (k : Nat) (ps : List Nat), i = .int .i64 k ∧ k ≤ s.size ∧ ps.length ≤ k ∧ Hid (plGo s.data.toList 0 = ps ++ plGo (s.data.toList.drop k) k) ∧ wr.ownsRow w.heap.size 3 1 v ps.length (natC ps) ∧ Below w.heap.size w wr
def PlcPost (s : ByteArray) (w : World) (e : Ending) (w' : World) : Prop := ∃ (v : Value) (ps : List Nat), e = .returned v ∧ Below w.heap.size w w' ∧ w'.ownsRow w.heap.size 3 1 v ps.length (natC ps) ∧ Hid (plGo s.data.toList 0 = ps)
set_option maxRecDepth 100000 in
set_option maxHeartbeats 4000000 in
theorem places_any (s : ByteArray) (w : World) (hs : s.size ≤ 100000) :
    Calls Try.prog 13 #[.string s] w (PlcPost s w) := by
  obtain ⟨i0, hi0, hz0', hz1, hz2⟩ := info_parts info_int
  go_enter Try.func13, Try.ntmps13
  go_wp2
  go_loopw [3, 7] (fun v i wr => PInv s w v i wr) (fun _ i _ => s.size - (intOf i).toNat)
  case atStart => exact ⟨0, [], rfl, Nat.zero_le _, Nat.le_refl _, hide rfl, ⟨rfl, .inl ⟨rfl, rfl⟩⟩, bl_refl w⟩
  case round =>
    obtain ⟨k, ps, rfl, hk, hpl, HP, hv, hbl⟩ := hrel
    have hbw : w.heap.size ≤ wr.heap.size := hbl.size
    by_cases hlt : k < s.size
    · have hkl : k < s.data.toList.length := by simpa using hlt
      have hsk : s.data.toList[k] = s[k] := rfl
      have FINON : (k = 0 ∨ contB s[k] = false) → ∀ (v' : Value) (W : World), W.ownsRow w.heap.size 3 1 v' (ps.length + 1) (natC ps ++ [.int .i64 (k : Int)]) → Below w.heap.size w W → PInv s w v' (.int .i64 ((k : Int) + 1)) W := fun hc v' W h1 h2 =>
        ⟨k + 1, ps ++ [k], by go_num, by omega, by simp; omega, hide (by rw [HP.out, plGo_on _ k hkl hc]; simp), by
          have e : natC (ps ++ [k]) = natC ps ++ [.int .i64 (k : Int)] := by simp [natC]
          rw [e, List.length_append]; exact h1, h2⟩
      by_cases hk0 : k = 0
      · have FO := hide (FINON (.inl hk0))
        subst hk0
        clear FINON HP
        go_wp2_with (first
          | (at_builtin; (refine wpList_push wr rfl _ _ 27 rfl w.heap.size 3 i0 (.int .i64 0) 1 8 Try.underlying27 hi0 hz0' hz1 hz2 rfl (by decide) u3 ps.length (natC ps) rfl hv 1 #[.int .i64 0] rfl rfl (by simp [Value.oneCell']) (by omega) (by decide) hbw ?_); intro v' w4 hv4 hg4 hat)
          | fail)
        have hbl4 : Below w.heap.size w w4 := bl_own hbl hv hg4 (Nat.le_refl _)
        refine ⟨?_, by first | (simp [intOf]; done) | (simp [intOf]; omega)⟩
        exact FO.out _ _ hv4 hbl4
      · have hkz : ((k : Int) == 0) = false := by simp; omega
        cases hc : contB s[k]
        · have FO := hide (FINON (.inr hc))
          have HC := hide hc
          clear FINON HP hc hsk
          go_wp2_with (first
            | (go_at_call 29; refine (contc_any s[k] _ false _ rfl HC.out).mono ?_; rintro e w1 ⟨rfl, rfl⟩)
            | (at_builtin; (refine wpList_push wr rfl _ _ 27 rfl w.heap.size 3 i0 (.int .i64 0) 1 8 Try.underlying27 hi0 hz0' hz1 hz2 rfl (by decide) u3 ps.length (natC ps) rfl hv 1 #[.int .i64 (k : Int)] rfl rfl (by simp [Value.oneCell']) (by omega) (by decide) hbw ?_); intro v' w4 hv4 hg4 hat)
            | fail)
          have hbl4 : Below w.heap.size w w4 := bl_own hbl hv hg4 (Nat.le_refl _)
          refine ⟨?_, by first | (simp [intOf]; done) | (simp [intOf]; omega)⟩
          exact FO.out _ _ hv4 hbl4
        · have HC := hide hc
          have FO : PInv s w u3 (.int .i64 ((k : Int) + 1)) wr := ⟨k + 1, ps, by go_num, by omega, by omega, hide (by rw [HP.out, plGo_off _ k hkl hk0 hc]), hv, hbl⟩
          have HF := hide FO
          clear FINON HP hc FO hsk
          go_wp2_with (go_at_call 29; refine (contc_any s[k] _ true _ rfl HC.out).mono ?_; rintro e w1 ⟨rfl, rfl⟩)
          refine ⟨?_, by first | (simp [intOf]; done) | (simp [intOf]; omega)⟩
          exact HF.out
    · have hks : k = s.size := by omega
      have hend : plGo s.data.toList 0 = ps ++ [s.size] := by
        have h1 := HP.out
        rw [hks, show plGo (s.data.toList.drop s.size) s.size = [s.size] from by have := plGo_end s.data.toList; rw [len_data] at this; exact this] at h1
        exact h1
      have HE := hide hend
      clear HP hend
      go_wp2_with (first
        | (at_builtin; (refine wpList_push wr rfl _ _ 27 rfl w.heap.size 3 i0 (.int .i64 0) 1 8 Try.underlying27 hi0 hz0' hz1 hz2 rfl (by decide) u3 ps.length (natC ps) rfl hv 1 #[.int .i64 (s.size : Int)] rfl rfl (by simp [Value.oneCell']) (by omega) (by decide) hbw ?_); intro v' w4 hv4 hg4 hat)
        | fail)
      have hbl4 : Below w.heap.size w w4 := bl_own hbl hv hg4 (Nat.le_refl _)
      have hv5 : w4.ownsRow w.heap.size 3 1 v' (ps ++ [s.size]).length (natC (ps ++ [s.size])) := by
        have e : natC (ps ++ [s.size]) = natC ps ++ [.int .i64 (s.size : Int)] := by simp [natC]
        rw [e, List.length_append]; exact hv4
      clear hv4
      go_ret
      exact ⟨_, ps ++ [s.size], rfl, hbl4, hv5, HE⟩
end
end Go.Proofs.Ytodnnhhlpinpbaa
