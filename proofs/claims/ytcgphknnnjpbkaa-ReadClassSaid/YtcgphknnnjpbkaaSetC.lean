/- Contracts of package char and of the reference's, as far as rows need them: Continues, First, Fold, Proper; Lead, Split, Proper. No condition but short texts. -/
import Derived.Test.YtcgphknnnjpbkaaEach
import Derived.Deep.QuietTactic
import Derived.BigQuiet
import Derived.Deep.Draws
namespace Go.Proofs.Ytcgphknnnjpbkaa
open Go.ChangeShapes Go.WideShapes Go.ChangeAt Go.RowKit
def contB (c : UInt8) : Bool := decide (128 ≤ c.toNat ∧ c.toNat ≤ 191)
def chGo : List UInt8 → List UInt8 → List (List UInt8)
  | [], acc => [acc]
  | c :: r, acc => if contB c = true then chGo r (acc ++ [c]) else acc :: chGo r [c]
def splitL : List UInt8 → List (List UInt8)
  | [] => []
  | c :: r => chGo r [c]
def firstN : List UInt8 → Nat
  | [] => 0
  | _ :: r => 1 + (r.takeWhile contB).length
theorem chGo_eq (r acc : List UInt8) : chGo r acc = (acc ++ r.takeWhile contB) :: splitL (r.drop (r.takeWhile contB).length) := by
  induction r generalizing acc with
  | nil => simp [chGo, splitL]
  | cons c t ih =>
    rw [chGo]
    cases hc : contB c
    · rw [if_neg (by simp), List.takeWhile_cons, hc]; simp [splitL]
    · rw [if_pos rfl, ih, List.takeWhile_cons, hc]; simp
theorem splitL_eq (l : List UInt8) (h : 0 < l.length) : splitL l = l.take (firstN l) :: splitL (l.drop (firstN l)) := by
  cases l with
  | nil => simp at h
  | cons c r =>
    rw [splitL, chGo_eq, firstN, Nat.add_comm 1, List.take_succ_cons, List.drop_succ_cons]
    congr 1
    rw [List.singleton_append]
    congr 1
    exact List.prefix_iff_eq_take.1 (List.takeWhile_prefix contB)
theorem firstN_le (l : List UInt8) : firstN l ≤ l.length := by
  cases l with
  | nil => exact Nat.le_refl _
  | cons c r => rw [firstN, List.length_cons]; have := (List.takeWhile_prefix contB (l := r)).length_le; omega
theorem firstN_pos (l : List UInt8) (h : 0 < l.length) : 1 ≤ firstN l := by
  cases l with
  | nil => simp at h
  | cons c r => rw [firstN]; omega
theorem ne_bytes (s : ByteArray) (h : 0 < s.size) : s.toList.isEmpty = false := by
  rw [Go.ByteArray.toList_eq]
  have : s.data.toList.length = s.size := by simp
  cases hl : s.data.toList with
  | nil => rw [hl] at this; simp at this; omega
  | cons a r => rfl
theorem e_bytes (s : ByteArray) (h : s.size = 0) : s.toList.isEmpty = true := by
  rw [Go.ByteArray.toList_eq]
  have : s.data.toList.length = s.size := by simp
  cases hl : s.data.toList with
  | nil => rfl
  | cons a r => rw [hl] at this; simp at this; omega
theorem ext_data (s : ByteArray) (a b : Nat) : (s.extract a b).data.toList = (s.data.toList.take b).drop a := by
  rw [ByteArray.data_extract]
  simp only [Array.toList_extract, List.extract_eq_take_drop]
  rw [List.drop_take]
set_option maxRecDepth 100000 in
set_option maxHeartbeats 1000000 in
theorem cont_any (c : UInt8) (w : World) : Calls Try.prog 28 #[.int .u8 (c.toNat : Int)] w fun e w' => e = .returned (.bool (contB c)) ∧ w = w' := by
  have hc : (c.toNat : Int) < 256 := by have := c.toNat_lt; omega
  have HW : Hid (contB c = decide (128 ≤ c.toNat ∧ c.toNat ≤ 191)) := hide rfl
  generalize contB c = b at *
  generalize c.toNat = n at *
  go_enter Try.func28, Try.ntmps28
  go_wp2
  all_goals
    go_ret
    exact ⟨ret_bool (by rw [HW.out, Bool.eq_iff_iff]; first | (simp; done) | (simp; omega) | omega), rfl⟩
theorem tw_at (r : List UInt8) (j : Nat) (h : j < r.length) (hp : j ≤ (r.takeWhile contB).length) (hc : contB r[j] = true) : j + 1 ≤ (r.takeWhile contB).length := by
  induction r generalizing j with
  | nil => simp at h
  | cons c t ih =>
    rw [List.takeWhile_cons] at hp ⊢
    cases hcc : contB c
    · rw [hcc] at hp
      have : j = 0 := by simpa using hp
      subst this
      rw [List.getElem_cons_zero, hcc] at hc; cases hc
    · rw [hcc] at hp
      simp only [if_true, List.length_cons] at hp ⊢
      cases j with
      | zero => omega
      | succ j => simp at h hc; have := ih j h (by omega) hc; omega
theorem tw_end (r : List UInt8) (j : Nat) (h : j < r.length) (hp : j ≤ (r.takeWhile contB).length) (hc : contB r[j] = false) : j = (r.takeWhile contB).length := by
  induction r generalizing j with
  | nil => simp at h
  | cons c t ih =>
    rw [List.takeWhile_cons] at hp ⊢
    cases hcc : contB c
    · rw [hcc] at hp
      simpa using hp
    · rw [hcc] at hp
      simp only [if_true, List.length_cons] at hp ⊢
      cases j with
      | zero => rw [List.getElem_cons_zero, hcc] at hc; cases hc
      | succ j => simp at h hc; have := ih j h (by omega) hc; omega
theorem fn_step (l : List UInt8) (k : Nat) (h1 : 1 ≤ k) (h : k < l.length) (hp : k ≤ firstN l) (hc : contB l[k] = true) : k + 1 ≤ firstN l := by
  cases l with
  | nil => simp at h
  | cons c r =>
    obtain ⟨j, rfl⟩ : ∃ j, k = j + 1 := ⟨k - 1, by omega⟩
    rw [firstN] at hp ⊢
    simp at h hc
    have := tw_at r j h (by omega) hc
    omega
theorem fn_end (l : List UInt8) (k : Nat) (h1 : 1 ≤ k) (h : k < l.length) (hp : k ≤ firstN l) (hc : contB l[k] = false) : firstN l = k := by
  cases l with
  | nil => simp at h
  | cons c r =>
    obtain ⟨j, rfl⟩ : ∃ j, k = j + 1 := ⟨k - 1, by omega⟩
    rw [firstN] at hp ⊢
    simp at h hc
    have := tw_end r j h (by omega) hc
    omega
set_option maxRecDepth 100000 in
set_option maxHeartbeats 2000000 in
theorem first_any (s : ByteArray) (w : World) (hs : s.size ≤ 1000000) :
    Calls Try.prog 71 #[.string s] w fun e w' => e = .returned (.string (s.extract 0 (firstN s.data.toList))) ∧ w = w' := by
  by_cases h0 : 0 < s.size
  · have hne := ne_bytes s h0
    obtain ⟨m, hm⟩ : ∃ m, firstN s.data.toList = m := ⟨_, rfl⟩
    have HM := hide hm
    have hm1 : 1 ≤ m := by rw [← hm]; exact firstN_pos _ (by rw [len_data]; exact h0)
    have hm2 : m ≤ s.size := by rw [← hm, ← len_data]; exact firstN_le _
    rw [hm]
    clear hm
    go_enter Try.func71, Try.ntmps71
    go_wp2
    go_loopw [3] (fun i wr => ∃ k : Nat, i = .int .i64 k ∧ 1 ≤ k ∧ k ≤ m ∧ w = wr)
      (fun i _ => s.size - (intOf i).toNat)
    case atStart => exact ⟨1, rfl, Nat.le_refl _, hm1, rfl⟩
    case round =>
      obtain ⟨k, rfl, hk1, hkm, rfl⟩ := hrel
      by_cases hlt : k < s.size
      · have hkl : k < s.data.toList.length := by simpa using hlt
        have hsk : s.data.toList[k] = s[k] := rfl
        cases hc : contB s[k]
        · have hmk : m = k := by rw [← HM.out]; exact fn_end _ k hk1 hkl (by rw [HM.out]; exact hkm) (by rw [hsk]; exact hc)
          have HC := hide hc
          clear hc hsk HM
          subst hmk
          go_wp2_with (go_at_call 28; refine (cont_any s[m] _).mono ?_; rintro e w1 ⟨rfl, rfl⟩; rw [HC.out])
          go_ret
          exact ⟨rfl, rfl⟩
        · have hmk : k + 1 ≤ m := by rw [← HM.out]; exact fn_step _ k hk1 hkl (by rw [HM.out]; exact hkm) (by rw [hsk]; exact hc)
          have HC := hide hc
          clear hc hsk
          go_wp2_with (go_at_call 28; refine (cont_any s[k] _).mono ?_; rintro e w1 ⟨rfl, rfl⟩; rw [HC.out])
          refine ⟨?_, by first | (simp [intOf]; done) | (simp [intOf]; omega)⟩
          first
            | exact ⟨k + 1, by go_num, by omega, hmk, by first | rfl | trivial⟩
            | ((repeat apply Exists.intro); exact ⟨⟨k + 1, by go_num, by omega, hmk, by first | rfl | trivial⟩, rfl⟩)
      · obtain rfl : m = k := by omega
        go_wp2
        go_ret
        exact ⟨rfl, rfl⟩
  · have hne := e_bytes s (by omega)
    have hl : s.data.toList = [] := List.eq_nil_of_length_eq_zero (by rw [len_data]; omega)
    have he : s.extract 0 (firstN s.data.toList) = ⟨#[]⟩ := by
      apply ByteArray.ext; apply Array.ext'
      rw [ext_data, hl]; rfl
    rw [he]
    clear he hl
    go_enter Try.func71, Try.ntmps71
    go_wp2
    go_ret
    exact ⟨rfl, rfl⟩
theorem firste_any (s X : ByteArray) (w : World) (hs : s.size ≤ 1000000) (hX : s.extract 0 (firstN s.data.toList) = X) :
    Calls Try.prog 71 #[.string s] w fun e w' => e = .returned (.string X) ∧ w = w' := by
  rw [← hX]; exact first_any s w hs
theorem fold_any (s : ByteArray) (w : World) (hs : s.size ≤ 1000000) :
    Calls Try.prog 107 #[.string s] w fun e w' => e = .returned (.string (mapS downB s)) ∧ Below w.heap.size w w' := by
  go_enter Try.func107, Try.ntmps107
  go_wp2_with fail
  refine (each_down s _ hs).mono ?_
  rintro e w1 ⟨rfl, hb⟩
  go_wp2
  go_ret
  exact ⟨rfl, hb⟩
def szOf : Value → Nat
  | .string b => b.size
  | _ => 0
theorem info_str : (Try.prog.info? 9).map (fun i => (i.zero, i.size, i.bytes)) = some (some (.string ⟨#[]⟩), 1, 16) := by kernel_rfl
theorem contc_any (c : UInt8) (n : Int) (b : Bool) (w : World) (hn : (c.toNat : Int) = n) (hb : contB c = b) : Calls Try.prog 28 #[.int .u8 n] w fun e w' => e = .returned (.bool b) ∧ w = w' := by
  rw [← hn, ← hb]; exact cont_any c w
theorem folde_any (s X : ByteArray) (w : World) (hs : s.size ≤ 1000000) (hX : mapS downB s = X) :
    Calls Try.prog 107 #[.string s] w fun e w' => e = .returned (.string X) ∧ Below w.heap.size w w' := by
  rw [← hX]; exact fold_any s w hs

set_option maxRecDepth 100000 in
set_option maxHeartbeats 1000000 in
theorem lead_any (c : UInt8) (w : World) : Calls Try.prog 44 #[.int .u8 (c.toNat : Int)] w fun e w' => e = .returned (.bool (!contB c)) ∧ w = w' := by
  have hc : (c.toNat : Int) < 256 := by have := c.toNat_lt; omega
  have HW : Hid (contB c = decide (128 ≤ c.toNat ∧ c.toNat ≤ 191)) := hide rfl
  generalize contB c = b at *
  generalize c.toNat = n at *
  go_enter Try.func44, Try.ntmps44
  go_wp2
  all_goals
    go_ret
    exact ⟨ret_bool (by rw [HW.out, Bool.eq_iff_iff]; first | (simp; done) | (simp; omega) | omega), rfl⟩
theorem leade_any (c : UInt8) (n : Int) (b : Bool) (w : World) (hn : (c.toNat : Int) = n) (hb : contB c = b) : Calls Try.prog 44 #[.int .u8 n] w fun e w' => e = .returned (.bool (!b)) ∧ w = w' := by
  rw [← hn, ← hb]; exact lead_any c w
structure SIn (l : List UInt8) (n k a : Nat) (ws : List (List UInt8)) : Prop where
  said : splitL l = ws ++ splitL (l.drop a)
  here : k ≤ n → a < k ∧ k - a ≤ firstN (l.drop a)
  gone : k = n + 1 → a = n
theorem sin_start (l : List UInt8) : SIn l l.length 1 0 [] :=
  ⟨rfl, fun h => ⟨by omega, by rw [List.drop_zero]; exact firstN_pos l (by omega)⟩, fun h => by omega⟩
theorem sin_cont {l : List UInt8} {k a : Nat} {ws : List (List UInt8)} (h : SIn l l.length k a ws) (hk : k < l.length) (hc : contB l[k] = true) : SIn l l.length (k + 1) a ws := by
  obtain ⟨h1, h2⟩ := h.here (by omega)
  have h3 := fn_step (l.drop a) (k - a) (by omega) (by rw [List.length_drop]; omega) h2 (by rw [List.getElem_drop]; simpa [show a + (k - a) = k by omega] using hc)
  exact ⟨h.said, fun _ => ⟨by omega, by omega⟩, fun e => by omega⟩
theorem sin_cut {l : List UInt8} {k a : Nat} {ws : List (List UInt8)} (h : SIn l l.length k a ws) (hk : k ≤ l.length) (h1 : a < k) (hf : firstN (l.drop a) = k - a) : SIn l l.length (k + 1) k (ws ++ [(l.take k).drop a]) := by
  have hs := splitL_eq (l.drop a) (by rw [List.length_drop]; omega)
  rw [hf, List.drop_drop, show a + (k - a) = k by omega] at hs
  refine ⟨?_, fun h2 => ⟨by omega, ?_⟩, fun e => by omega⟩
  · rw [h.said, hs, List.drop_take]; simp
  · have : k + 1 - k = 1 := by omega
    rw [this]
    exact firstN_pos _ (by rw [List.length_drop]; omega)
theorem sin_lead {l : List UInt8} {k a : Nat} {ws : List (List UInt8)} (h : SIn l l.length k a ws) (hk : k < l.length) (hc : contB l[k] = false) : SIn l l.length (k + 1) k (ws ++ [(l.take k).drop a]) := by
  obtain ⟨h1, h2⟩ := h.here (by omega)
  have h3 := fn_end (l.drop a) (k - a) (by omega) (by rw [List.length_drop]; omega) h2 (by rw [List.getElem_drop]; simpa [show a + (k - a) = k by omega] using hc)
  exact sin_cut h (by omega) h1 h3
theorem sin_last {l : List UInt8} {a : Nat} {ws : List (List UInt8)} (h : SIn l l.length l.length a ws) : SIn l l.length (l.length + 1) l.length (ws ++ [(l.take l.length).drop a]) := by
  obtain ⟨h1, h2⟩ := h.here (Nat.le_refl _)
  have h3 := firstN_le (l.drop a)
  rw [List.length_drop] at h3
  exact sin_cut h (Nat.le_refl _) h1 (by omega)
def SRel (s : ByteArray) (w : World) (v f i : Value) (wr : World) : Prop :=
  ∃ (k a : Nat) (zs : List ByteArray), i = .int .i64 k ∧ f = .int .i64 a ∧ k ≤ s.size + 1 ∧ 1 ≤ k ∧ a ≤ s.size ∧ (k ≤ s.size → a < k) ∧ zs.length ≤ k ∧ Hid (SIn s.data.toList s.data.toList.length k a (zs.map fun z => z.data.toList)) ∧ wr.ownsRow w.heap.size 9 1 v zs.length (zs.map .string) ∧ Below w.heap.size w wr
def SPost (s : ByteArray) (w : World) (e : Ending) (w' : World) : Prop := ∃ (v : Value) (zs : List ByteArray), e = .returned v ∧ Below w.heap.size w w' ∧ w'.ownsRow w.heap.size 9 1 v zs.length (zs.map .string) ∧ Hid (zs.map (fun z => z.data.toList) = splitL s.data.toList)
set_option maxRecDepth 100000 in
set_option maxHeartbeats 4000000 in
theorem rsplit_any (s : ByteArray) (w : World) (hs : s.size ≤ 100000) :
    Calls Try.prog 31 #[.string s] w (SPost s w) := by
  obtain ⟨i0, hi0, hz0', hz1, hz2⟩ := info_parts info_str
  go_enter Try.func31, Try.ntmps31
  go_wp2
  go_loopw [3, 4, 5] (fun v f i wr => SRel s w v f i wr) (fun _ _ i _ => s.size + 1 - (intOf i).toNat)
  case atStart => exact ⟨1, 0, [], rfl, rfl, by omega, Nat.le_refl _, Nat.zero_le _, fun _ => by omega, Nat.zero_le _, hide (sin_start _), ⟨rfl, .inl ⟨rfl, rfl⟩⟩, bl_refl w⟩
  case round =>
    obtain ⟨k, a, zs, rfl, rfl, hk, hk1, has, hak, hzl, HI, hv, hbl⟩ := hrel
    have hbw : w.heap.size ≤ wr.heap.size := hbl.size
    by_cases hle : k ≤ s.size
    · have ha := hak hle
      have FIN : SIn s.data.toList s.data.toList.length (k + 1) k ((zs.map fun z => z.data.toList) ++ [(s.data.toList.take k).drop a]) → ∀ (v' : Value) (W : World), W.ownsRow w.heap.size 9 1 v' (zs.length + 1) (zs.map .string ++ [.string (s.extract a k)]) → Below w.heap.size w W → SRel s w v' (.int .i64 k) (.int .i64 ((k : Int) + 1)) W := fun h v' W h1 h2 =>
        ⟨k + 1, k, zs ++ [s.extract a k], by go_num, rfl, by omega, by omega, hle, fun _ => by omega, by simp; omega, hide (by rw [List.map_append, List.map_singleton, ext_data]; exact h), by
          rw [List.map_append, List.length_append]; exact h1, h2⟩
      by_cases heq : k = s.size
      · have hx : SIn s.data.toList s.data.toList.length (k + 1) k ((zs.map fun z => z.data.toList) ++ [(s.data.toList.take k).drop a]) := by
          have e : k = s.data.toList.length := by rw [len_data]; exact heq
          have h := HI.out
          rw [e] at h ⊢
          exact sin_last h
        have FO := hide (FIN hx)
        clear FIN hx HI
        subst heq
        have hke : ((s.size : Int) == (s.size : Int)) = true := by simp
        go_wp2_with (first
          | (at_builtin; (refine wpList_push wr rfl _ _ 50 rfl w.heap.size 9 i0 (.string ⟨#[]⟩) 1 16 Try.underlying50 hi0 hz0' hz1 hz2 rfl (by decide) u3 zs.length (zs.map .string) rfl hv 1 #[.string (s.extract a s.size)] rfl rfl (by simp [Value.oneCell']) (by omega) (by decide) hbw ?_); intro v' w4 hv4 hg4 hat)
          | fail)
        have hbl4 : Below w.heap.size w w4 := bl_own hbl hv hg4 (Nat.le_refl _)
        refine ⟨?_, by first | (simp [intOf]; done) | (simp [intOf]; omega)⟩
        exact FO.out _ _ hv4 hbl4
      · have hlt : k < s.size := by omega
        have hkl : k < s.data.toList.length := by simpa using hlt
        have hsk : s.data.toList[k] = s[k] := rfl
        have hke : ((k : Int) == (s.size : Int)) = false := by simp; omega
        cases hc : contB s[k]
        · have FO := hide (FIN (sin_lead HI.out hkl hc))
          have HC := hide hc
          clear FIN HI hc hsk
          go_wp2_with (first
            | (go_at_call 44; refine (leade_any s[k] _ false _ rfl HC.out).mono ?_; rintro e w1 ⟨rfl, rfl⟩)
            | (at_builtin; (refine wpList_push wr rfl _ _ 50 rfl w.heap.size 9 i0 (.string ⟨#[]⟩) 1 16 Try.underlying50 hi0 hz0' hz1 hz2 rfl (by decide) u3 zs.length (zs.map .string) rfl hv 1 #[.string (s.extract a k)] rfl rfl (by simp [Value.oneCell']) (by omega) (by decide) hbw ?_); intro v' w4 hv4 hg4 hat)
            | fail)
          have hbl4 : Below w.heap.size w w4 := bl_own hbl hv hg4 (Nat.le_refl _)
          refine ⟨?_, by first | (simp [intOf]; done) | (simp [intOf]; omega)⟩
          exact FO.out _ _ hv4 hbl4
        · have FO : SRel s w u3 (.int .i64 a) (.int .i64 ((k : Int) + 1)) wr := ⟨k + 1, a, zs, by go_num, rfl, by omega, by omega, has, fun _ => by omega, by omega, hide (sin_cont HI.out hkl hc), hv, hbl⟩
          have HF := hide FO
          have HC := hide hc
          clear FIN HI hc FO hsk
          go_wp2_with (go_at_call 44; refine (leade_any s[k] _ true _ rfl HC.out).mono ?_; rintro e w1 ⟨rfl, rfl⟩)
          refine ⟨?_, by first | (simp [intOf]; done) | (simp [intOf]; omega)⟩
          exact HF.out
    · have hks : k = s.size + 1 := by omega
      have hsaid : zs.map (fun z => z.data.toList) = splitL s.data.toList := by
        have h1 := HI.out.gone (by rw [len_data]; exact hks)
        have h2 := HI.out.said
        rw [h1, List.drop_of_length_le (Nat.le_refl _)] at h2
        rw [h2]; simp [splitL]
      have HS := hide hsaid
      clear HI hsaid hak
      go_wp2
      go_ret
      exact ⟨_, zs, rfl, hbl, hv, HS⟩

def properB (l : List UInt8) : Bool := decide (∃ h : 0 < l.length, contB l[0] = false ∧ firstN l = l.length)
theorem proper_nil : properB [] = false := by simp [properB]
theorem proper_cont (l : List UInt8) (h : 0 < l.length) (hc : contB l[0] = true) : properB l = false := by simp [properB, hc]
theorem proper_yes (l : List UInt8) (h : 0 < l.length) (hc : contB l[0] = false) (hf : firstN l = l.length) : properB l = true := by simp only [properB, decide_eq_true_iff]; exact ⟨h, hc, hf⟩
theorem proper_no (l : List UInt8) (hf : ¬ firstN l = l.length) : properB l = false := by simp [properB, hf]
theorem splitL_ne (l : List UInt8) (h : 0 < l.length) : splitL l ≠ [] := by rw [splitL_eq l h]; simp
theorem split_one (l : List UInt8) (h : 0 < l.length) : (splitL l).length = 1 ↔ firstN l = l.length := by
  rw [splitL_eq l h, List.length_cons]
  have hle := firstN_le l
  constructor
  · intro e
    by_cases h2 : firstN l = l.length
    · exact h2
    · have := splitL_ne (l.drop (firstN l)) (by rw [List.length_drop]; omega)
      exact absurd (List.eq_nil_of_length_eq_zero (by omega)) this
  · intro e
    rw [List.drop_of_length_le (by omega)]; rfl
set_option maxRecDepth 100000 in
set_option maxHeartbeats 1000000 in
theorem properq_any (z : ByteArray) (r : Bool) (w : World) (hs : z.size ≤ 100000) (hr : properB z.data.toList = r) :
    Calls Try.prog 55 #[.string z] w fun e w' => e = .returned (.bool r) ∧ Below w.heap.size w w' := by
  by_cases h0 : 0 < z.size
  · have hne := ne_bytes z h0
    have hl0 : 0 < z.data.toList.length := by rw [len_data]; exact h0
    have hz0 : z.data.toList[0] = z[0] := rfl
    cases hc : contB z[0]
    · obtain ⟨X, hX⟩ : ∃ X, z.extract 0 (firstN z.data.toList) = X := ⟨_, rfl⟩
      have hXs : X.size = firstN z.data.toList := by
        have h1 := firstN_le z.data.toList
        rw [len_data] at h1
        rw [← hX, ByteArray.size_extract]; omega
      have HX := hide hX
      have HC := hide hc
      by_cases he : firstN z.data.toList = z.data.toList.length
      · have hrt : r = true := by rw [← hr]; exact proper_yes _ hl0 (by rw [hz0]; exact hc) he
        have hxe : ((X.size : Int) == (z.size : Int)) = true := by rw [len_data] at he; simp; omega
        subst hrt
        clear hr hX hc he hXs hz0
        go_enter Try.func55, Try.ntmps55
        go_wp2_with (first | (go_at_call 28; refine (contc_any z[0] _ false _ rfl HC.out).mono ?_; rintro e w1 ⟨rfl, rfl⟩) | (go_at_call 71; refine (firste_any z X _ (by omega) HX.out).mono ?_; rintro e w1 ⟨rfl, rfl⟩))
        go_ret
        exact ⟨rfl, bl_refl _⟩
      · have hrf : r = false := by rw [← hr]; exact proper_no _ he
        have hxe : ((X.size : Int) == (z.size : Int)) = false := by rw [len_data] at he; simp; omega
        subst hrf
        clear hr hX hc he hXs hz0
        go_enter Try.func55, Try.ntmps55
        go_wp2_with (first | (go_at_call 28; refine (contc_any z[0] _ false _ rfl HC.out).mono ?_; rintro e w1 ⟨rfl, rfl⟩) | (go_at_call 71; refine (firste_any z X _ (by omega) HX.out).mono ?_; rintro e w1 ⟨rfl, rfl⟩))
        go_ret
        exact ⟨rfl, bl_refl _⟩
    · have hrf : r = false := by rw [← hr]; exact proper_cont _ hl0 (by rw [hz0]; exact hc)
      have HC := hide hc
      subst hrf
      clear hr hc hz0
      go_enter Try.func55, Try.ntmps55
      go_wp2_with (first | (go_at_call 28; refine (contc_any z[0] _ true _ rfl HC.out).mono ?_; rintro e w1 ⟨rfl, rfl⟩))
      go_ret
      exact ⟨rfl, bl_refl _⟩
  · have hne := e_bytes z (by omega)
    have hl : z.data.toList = [] := List.eq_nil_of_length_eq_zero (by rw [len_data]; omega)
    have hrf : r = false := by rw [← hr, hl]; exact proper_nil
    subst hrf
    clear hr hl
    go_enter Try.func55, Try.ntmps55
    go_wp2
    go_ret
    exact ⟨rfl, bl_refl _⟩
set_option maxRecDepth 100000 in
set_option maxHeartbeats 1000000 in
theorem rproper_any (z : ByteArray) (r : Bool) (w : World) (hs : z.size ≤ 100000) (hr : properB z.data.toList = r) :
    Calls Try.prog 86 #[.string z] w fun e w' => e = .returned (.bool r) ∧ Below w.heap.size w w' := by
  by_cases h0 : 0 < z.size
  · have hl0 : 0 < z.data.toList.length := by rw [len_data]; exact h0
    have hz0 : z.data.toList[0] = z[0] := rfl
    have hi0 : (0 : Int) < (z.size : Int) := by omega
    cases hc : contB z[0]
    · have HC := hide hc
      have hon := split_one _ hl0
      have hrr : r = decide (firstN z.data.toList = z.data.toList.length) := by
        rw [← hr]
        by_cases he : firstN z.data.toList = z.data.toList.length
        · rw [proper_yes _ hl0 (by rw [hz0]; exact hc) he]; simp [he]
        · rw [proper_no _ he]; symm; rw [decide_eq_false_iff_not]; exact he
      have HRR := hide hrr
      have HON := hide hon
      clear hr hc hz0 hrr hon
      go_enter Try.func86, Try.ntmps86
      go_wp2_with fail
      refine (leade_any z[0] _ false _ rfl HC.out).mono ?_
      rintro e w1 ⟨rfl, rfl⟩
      go_wp2_with fail
      refine (rsplit_any z _ hs).mono ?_
      rintro e w2 ⟨v, zs, rfl, hb2, hv, HZ⟩
      have hzl : zs.length = (splitL z.data.toList).length := by rw [← HZ.out, List.length_map]
      obtain ⟨aV, cV, rfl⟩ := own_slice hv
      have hrz : ((zs.length : Int) == 1) = r := by
        rw [HRR.out, Bool.eq_iff_iff]
        rw [decide_eq_true_iff, ← HON.out, ← hzl]
        simp; omega
      have HRZ := hide hrz
      clear hv HZ hzl hrz
      go_wp2
      go_ret
      exact ⟨ret_bool HRZ.out, hb2⟩
    · have hrf : r = false := by rw [← hr]; exact proper_cont _ hl0 (by rw [hz0]; exact hc)
      have HC := hide hc
      subst hrf
      clear hr hc hz0
      go_enter Try.func86, Try.ntmps86
      go_wp2_with (first | (go_at_call 44; refine (leade_any z[0] _ true _ rfl HC.out).mono ?_; rintro e w1 ⟨rfl, rfl⟩))
      go_ret
      exact ⟨rfl, bl_refl _⟩
  · have hl : z.data.toList = [] := List.eq_nil_of_length_eq_zero (by rw [len_data]; omega)
    have hrf : r = false := by rw [← hr, hl]; exact proper_nil
    have hi0 : decide ((0 : Int) < (z.size : Int)) = false := decide_eq_false_iff_not.2 (by omega)
    have hi1 : (z.size : Int) ≤ 0 := by omega
    subst hrf
    clear hr hl
    go_enter Try.func86, Try.ntmps86
    go_wp2
    go_ret
    exact ⟨rfl, bl_refl _⟩
end Go.Proofs.Ytcgphknnnjpbkaa
