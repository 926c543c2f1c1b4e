/- Contracts of the reference of casing: bytes, words, Turn. No condition but short texts. -/
import Derived.Test.YtbphckblbbbakaaDoorCasingB
import Derived.Deep.RegionWith
namespace Go.Proofs.YtbphckblbbbakaaDoor
open Go.ChangeShapes Go.WideShapes Go.ChangeAt Go.RowKit

set_option maxRecDepth 100000 in
theorem rup_any (c : UInt8) (w : World) : Calls Tryd.prog 40 #[.int .u8 (c.toNat : Int)] w fun e w' => e = .returned (.int .u8 ((upB c).toNat : Int)) ∧ w = w' := by
  have hc : (c.toNat : Int) < 256 := by have := c.toNat_lt; omega
  have HU := hide (upB_nat c)
  generalize (upB c).toNat = u at *
  generalize c.toNat = n at *
  by_cases h : 97 ≤ n ∧ n ≤ 122
  · go_enter Tryd.func40, Tryd.ntmps40
    go_wp2
    all_goals
      go_ret
      exact ⟨ret_int (by have := HU.out; rw [if_pos (by omega)] at this; omega), rfl⟩
  · go_enter Tryd.func40, Tryd.ntmps40
    go_wp2
    all_goals
      go_ret
      exact ⟨ret_int (by have := HU.out; rw [if_neg (by omega)] at this; omega), rfl⟩
set_option maxRecDepth 100000 in
theorem rdown_any (c : UInt8) (w : World) : Calls Tryd.prog 41 #[.int .u8 (c.toNat : Int)] w fun e w' => e = .returned (.int .u8 ((downB c).toNat : Int)) ∧ w = w' := by
  have hc : (c.toNat : Int) < 256 := by have := c.toNat_lt; omega
  have HU := hide (downB_nat c)
  generalize (downB c).toNat = u at *
  generalize c.toNat = n at *
  by_cases h : 65 ≤ n ∧ n ≤ 90
  · go_enter Tryd.func41, Tryd.ntmps41
    go_wp2
    all_goals
      go_ret
      exact ⟨ret_int (by have := HU.out; rw [if_pos (by omega)] at this; omega), rfl⟩
  · go_enter Tryd.func41, Tryd.ntmps41
    go_wp2
    all_goals
      go_ret
      exact ⟨ret_int (by have := HU.out; rw [if_neg (by omega)] at this; omega), rfl⟩
set_option maxRecDepth 100000 in
set_option maxHeartbeats 1000000 in
theorem rin_any (c : UInt8) (w : World) : Calls Tryd.prog 54 #[.int .u8 (c.toNat : Int)] w fun e w' => e = .returned (.bool (wordB c)) ∧ w = w' := by
  have hc : (c.toNat : Int) < 256 := by have := c.toNat_lt; omega
  have HW : Hid (wordB c = decide (48 ≤ c.toNat ∧ c.toNat ≤ 57 ∨ 65 ≤ c.toNat ∧ c.toNat ≤ 90 ∨ 97 ≤ c.toNat ∧ c.toNat ≤ 122 ∨ 128 ≤ c.toNat)) := hide rfl
  generalize wordB c = b at *
  generalize c.toNat = n at *
  go_enter Tryd.func54, Tryd.ntmps54
  go_wp2
  all_goals
    go_ret
    exact ⟨ret_bool (by rw [HW.out, Bool.eq_iff_iff]; first | (simp; done) | (simp; omega) | omega), rfl⟩
theorem rinc_any (c : UInt8) (n : Int) (b : Bool) (w : World) (hn : (c.toNat : Int) = n) (hb : wordB c = b) : Calls Tryd.prog 54 #[.int .u8 n] w fun e w' => e = .returned (.bool b) ∧ w = w' := by
  rw [← hn, ← hb]; exact rin_any c w

def joinW (f : UInt8 → UInt8) : List (List UInt8) → List UInt8
  | [] => []
  | w :: r => capL f w ++ r.flatMap (capL upB)
theorem capL_snoc (f : UInt8 → UInt8) (w : List UInt8) (c : UInt8) (h : w ≠ []) : capL f (w ++ [c]) = capL f w ++ [c] := by
  cases w with
  | nil => exact absurd rfl h
  | cons a r => rfl
theorem joinW_grow (f : UInt8 → UInt8) (a : List (List UInt8)) (w : List UInt8) (c : UInt8) (h : w ≠ []) : joinW f (a ++ [w ++ [c]]) = joinW f (a ++ [w]) ++ [c] := by
  cases a with
  | nil => simp [joinW, capL_snoc f w c h]
  | cons b r => simp [joinW, capL_snoc upB w c h]
theorem joinW_new (f : UInt8 → UInt8) (a : List (List UInt8)) (c : UInt8) : joinW f (a ++ [[c]]) = joinW f a ++ [if a.isEmpty then f c else upB c] := by
  cases a with
  | nil => simp [joinW, capL]
  | cons b r => simp [joinW, capL]
theorem joinW_snoc (f : UInt8 → UInt8) (a : List (List UInt8)) (w : List UInt8) : joinW f (a ++ [w]) = joinW f a ++ (if a.isEmpty then capL f w else capL upB w) := by
  cases a with
  | nil => simp [joinW]
  | cons b r => simp [joinW]
/-- What the words so far say of the whole. -/
structure WInv (l : List UInt8) (k : Nat) (p : Bool) (ws : List (List UInt8)) : Prop where
  some : ∀ x ∈ ws, x ≠ []
  last : p = true → ws ≠ []
  said : ∀ f : UInt8 → UInt8, jn f l true true = joinW f ws ++ jn f (l.drop k) (!p) ws.isEmpty
theorem winv_off {l : List UInt8} {k : Nat} {p : Bool} {ws : List (List UInt8)} (h : WInv l k p ws) (hk : k < l.length) (hw : wordB l[k] = false) : WInv l (k + 1) false ws :=
  ⟨h.some, fun x => (by cases x), fun f => by rw [h.said f, jn_off f l k _ _ hk hw]; rfl⟩
theorem winv_new {l : List UInt8} {k : Nat} {ws : List (List UInt8)} (h : WInv l k false ws) (hk : k < l.length) (hw : wordB l[k] = true) : WInv l (k + 1) true (ws ++ [[l[k]]]) :=
  ⟨fun x hx => by
      rcases List.mem_append.1 hx with hx | hx
      · exact h.some x hx
      · rw [List.mem_singleton] at hx; subst hx; simp,
   fun _ => by simp, fun f => by
      rw [h.said f, jn_on f l k _ _ hk hw, joinW_new]
      have e : (ws ++ [[l[k]]]).isEmpty = false := by cases ws <;> rfl
      rw [e]
      simp⟩
theorem winv_on {l : List UInt8} {k : Nat} {ws : List (List UInt8)} {x : List UInt8} (h : WInv l k true (ws ++ [x])) (hk : k < l.length) (hw : wordB l[k] = true) : WInv l (k + 1) true (ws ++ [x ++ [l[k]]]) :=
  ⟨fun y hy => by
      rcases List.mem_append.1 hy with hy | hy
      · exact h.some y (by simp [hy])
      · rw [List.mem_singleton] at hy; subst hy; simp,
   fun _ => by simp, fun f => by
      have hx : x ≠ [] := h.some x (by simp)
      have e : ∀ y : List UInt8, (ws ++ [y]).isEmpty = false := by intro y; cases ws <;> rfl
      rw [h.said f, jn_on f l k _ _ hk hw, joinW_grow f ws x l[k] hx, e, e]
      simp⟩
theorem info_str : (Tryd.prog.info? 9).map (fun i => (i.zero, i.size, i.bytes)) = some (some (.string ⟨#[]⟩), 1, 16) := by kernel_rfl
theorem ext_one (s : ByteArray) (k : Nat) (h : k < s.size) : (s.extract k (k + 1)).data.toList = [s.data.toList[k]'(by simpa using h)] := by
  rw [ByteArray.data_extract]
  simp only [Array.toList_extract, List.extract_eq_take_drop]
  have : k + 1 - k = 1 := by omega
  rw [this, List.drop_eq_getElem_cons (by simpa using h)]
  rfl
theorem store_last {w : World} {base g m c : Nat} {zs0 : List ByteArray} {z : ByteArray} (ho : w.ownsRow base 9 1 (.slice (some ⟨g, 0, none⟩) (m + 1) c) (m + 1) ((zs0 ++ [z]).map .string)) (hm : zs0.length = m) (z2 : ByteArray) :
    (w.drew.setCell ⟨g, m, none⟩ (.string z2)).ownsRow base 9 1 (.slice (some ⟨g, 0, none⟩) (m + 1) c) (zs0 ++ [z2]).length ((zs0 ++ [z2]).map .string) := by
  have h := (World.ownsRow.stored (World.ownsRow.drew ho) m (.string z2)).1
  have e : (zs0 ++ [z2]).length = m + 1 := by simp [hm]
  have e2 : ((zs0 ++ [z]).map Value.string).set m (.string z2) = (zs0 ++ [z2]).map .string := by
    rw [List.map_append, List.map_append, List.set_append_right _ _ (by simp [hm])]
    simp [hm]
  rw [e, ← e2]
  exact h
theorem last_cell {w : World} {base g m c : Nat} {zs0 : List ByteArray} {z : ByteArray} (ho : w.ownsRow base 9 1 (.slice (some ⟨g, 0, none⟩) (m + 1) c) (m + 1) ((zs0 ++ [z]).map .string)) (hm : zs0.length = m) : w.cell? ⟨g, m, none⟩ = some (.string z) := by
  rw [World.ownsRow.cellAt ho m (by omega)]
  simp [hm]
def WRel (s : ByteArray) (w : World) (v i : Value) (wr : World) : Prop :=
  ∃ (k : Nat) (p : Bool) (zs : List ByteArray), i = .int .i64 k ∧ k ≤ s.size ∧ zs.length ≤ k ∧ (∀ z ∈ zs, z.size ≤ k) ∧ Hid (∀ (h : 0 < k ∧ k ≤ s.data.toList.length), wordB (s.data.toList[k - 1]'(by omega)) = p) ∧ Hid (k = 0 → p = false) ∧ Hid (WInv s.data.toList k p (zs.map fun z => z.data.toList)) ∧ wr.ownsRow w.heap.size 9 1 v zs.length (zs.map .string) ∧ Below w.heap.size w wr
theorem own_posW {w : World} {base : Nat} {e : TypeId} {size : Nat} {v : Value} {n : Nat} {xs : List Value} (h : w.ownsRow base e size v n xs) (hn : 0 < n) :
    ∃ g c, v = .slice (some ⟨g, 0, none⟩) n c ∧ base ≤ g ∧ g < w.heap.size ∧ n ≤ c ∧ c ≤ maxLen := by
  rcases own_form h with ⟨_, h0, _⟩ | ⟨g, c, rfl, h1, h2, h3, h4, _⟩
  · omega
  · exact ⟨g, c, rfl, h1, h2, h3, h4⟩
set_option maxRecDepth 100000 in
set_option maxHeartbeats 8000000 in
theorem words_any (s : ByteArray) (w : World) (hs : s.size ≤ 10000) :
    Calls Tryd.prog 42 #[.string s] w fun e w' => ∃ (v : Value) (zs : List ByteArray), e = .returned v ∧ Below w.heap.size w w' ∧ w'.ownsRow w.heap.size 9 1 v zs.length (zs.map .string) ∧ zs.length ≤ s.size ∧ (∀ z ∈ zs, z.size ≤ s.size ∧ 1 ≤ z.size) ∧ Hid (∀ f : UInt8 → UInt8, jn f s.data.toList true true = joinW f (zs.map fun z => z.data.toList)) := by
  obtain ⟨i0, hi0, hz0', hz1, hz2⟩ := info_parts info_str
  go_enter Tryd.func42, Tryd.ntmps42
  go_wp2
  go_loopw [3, 4] (fun v i wr => WRel s w v i wr)
    (fun _ i _ => s.size - (intOf i).toNat)
  case atStart => exact ⟨0, false, [], rfl, Nat.zero_le _, Nat.le_refl _, by simp, hide (fun h => by omega), hide (fun _ => rfl), hide ⟨by simp, by simp, fun f => by rfl⟩, ⟨rfl, .inl ⟨rfl, rfl⟩⟩, bl_refl w⟩
  case round =>
    obtain ⟨k, p, zs, rfl, hk, hzl, hzz, HP, HP0, HI, hv, hbl⟩ := hrel
    by_cases hlt : k < s.size
    · have hkl : k < s.data.toList.length := by simpa using hlt
      have hsk : s.data.toList[k] = s[k] := rfl
      have hbw : w.heap.size ≤ wr.heap.size := hbl.size
      have HP2 : ∀ b, wordB s[k] = b → Hid (∀ (h : 0 < k + 1 ∧ k + 1 ≤ s.data.toList.length), wordB (s.data.toList[k + 1 - 1]'(by omega)) = b) := fun b hb => hide (fun _ => hb)
      have HP3 : ∀ b : Bool, Hid (k + 1 = 0 → b = false) := fun b => hide (fun h => by omega)
      cases hw : wordB s[k]
      · have HI2 := hide (winv_off HI.out hkl hw)
        have HW := hide hw
        have HPX := HP2 false hw
        have hzz2 : ∀ z ∈ zs, z.size ≤ k + 1 := fun z hz => by have := hzz z hz; omega
        have FIN : WRel s w u3 (.int .i64 ((k : Int) + 1)) wr := ⟨k + 1, false, zs, by go_num, by omega, by omega, hzz2, HPX, HP3 _, HI2, hv, hbl⟩
        have HFIN := hide FIN
        clear hw HP2 hsk hzz hzz2 FIN
        go_wp2_with (go_at_call 54; refine (rinc_any s[k] _ false _ rfl HW.out).mono ?_; rintro e w1 ⟨rfl, rfl⟩)
        refine ⟨?_, by first | (simp [intOf]; done) | (simp [intOf]; omega)⟩
        exact HFIN.out
      · have HW := hide hw
        have HPX := HP2 true hw
        have HX1 := hide (ext_one s k hlt)
        clear hw HP2
        cases p
        · have HI3 := hide (winv_new HI.out hkl HW.out)
          have HZ0 := hide hzz
          obtain ⟨m, hm⟩ : ∃ m, zs.length = m := ⟨_, rfl⟩
          rw [hm] at hv hzl
          have HM0 := hide hm
          have hinn : ∀ z2 : ByteArray, z2.data.toList = [s.data.toList[k]] → Hid (WInv s.data.toList (k + 1) true ((zs ++ [z2]).map fun z => z.data.toList)) := fun z2 h => hide (by rw [List.map_append, List.map_cons, List.map_nil, h]; exact HI3.out)
          have HIN := hide hinn
          clear hzz hm hinn HI HI3 HP0
          rcases Nat.eq_zero_or_pos k with hk0 | hk0
          · subst hk0
            clear HP
            go_wp2_with (first
              | (go_at_call 54; refine (rinc_any s[0] _ true _ rfl HW.out).mono ?_; rintro e w1 ⟨rfl, rfl⟩)
              | (at_builtin; (refine wpList_push wr rfl _ _ 23 rfl w.heap.size 9 i0 (.string ⟨#[]⟩) 1 16 Tryd.underlying23 hi0 hz0' hz1 hz2 rfl (by decide) u3 m (zs.map .string) rfl hv 1 #[.string ⟨#[]⟩] rfl rfl (by simp [Value.oneCell']) (by omega) (by decide) hbw ?_); intro v' w4 hv4 hg4 hat; obtain ⟨g, c, rfl, hgl, hg2, hg3, hgm⟩ := own_posW hv4 (by omega); unfold maxLen at hgm)
              | fail)
            obtain ⟨z, hz⟩ : ∃ z : ByteArray, (⟨#[]⟩ : ByteArray) = z := ⟨_, rfl⟩
            have hO : w4.ownsRow w.heap.size 9 1 (.slice (some ⟨g, 0, none⟩) (m + 1) c) (m + 1) ((zs ++ [z]).map .string) := by
              rw [List.map_append, ← hz]; exact hv4
            have hzd : z.data.toList = [] := by rw [← hz]
            have hzsz : z.size ≤ 0 := by rw [← hz]; exact Nat.zero_le _
            have HZS := hide hzsz
            have HINV := hide (fun (z2 : ByteArray) (h : z2.data.toList = z.data.toList ++ [s.data.toList[0]]) => HIN.out z2 (by rw [h, hzd]; rfl))
            have hbl4 : Below w.heap.size w w4 := bl_own hbl hv hg4 (Nat.le_refl _)
            clear hv hv4 hat hz hzd hzsz
            have hcz := last_cell hO HM0.out
            have hfz := World.ownsRow.frozenAt hO m
            have hst := fun z2 => store_last hO HM0.out z2
            have hzs2 : (z ++ s.extract 0 (0 + 1)).size ≤ 0 + 1 := by rw [ByteArray.size_append, ByteArray.size_extract]; have := HZS.out; omega
            have hd2 : (z ++ s.extract 0 (0 + 1)).data.toList = z.data.toList ++ [s.data.toList[0]] := by rw [ByteArray.toList_data_append, HX1.out]
            have FIN : ∀ z2 : ByteArray, z2 = z ++ s.extract 0 (0 + 1) → WRel s w (.slice (some ⟨g, 0, none⟩) (m + 1) c) (.int .i64 (0 + 1)) (w4.drew.setCell ⟨g, m, none⟩ (.string z2)) := by
              rintro z2 rfl
              refine ⟨0 + 1, true, zs ++ [z ++ s.extract 0 (0 + 1)], by go_num, by omega, by simp [HM0.out]; omega, ?_, HPX, HP3 _, HINV.out _ hd2, hst _, bl_set (bl_drew hbl4) (by first | exact hgl | omega) _⟩
              intro y hy
              rcases List.mem_append.1 hy with hy | hy
              · have := HZ0.out y hy; omega
              · rw [List.mem_singleton] at hy; subst hy; exact hzs2
            have HFIN := hide FIN
            have hzk : z.size ≤ 0 := HZS.out
            clear FIN hst hO hd2 hzs2
            go_region
            all_goals
              go_wp2
              refine ⟨?_, by first | (simp [intOf]; done) | (simp [intOf]; omega)⟩
              exact HFIN.out _ (by first | rfl | simp)
          · obtain ⟨j, rfl⟩ : ∃ j, k = j + 1 := ⟨k - 1, by omega⟩
            have hkz : (((j : Nat) : Int) + 1 == 0) = false := by simp; omega
            have HPJ : Hid (wordB (s[j]'(by omega)) = false) := hide (HP.out ⟨hk0, by omega⟩)
            clear HP
            go_wp2_with fail
            refine (rinc_any s[j + 1] _ true _ rfl HW.out).mono ?_
            rintro e w1 ⟨rfl, rfl⟩
            go_wp2_with fail
            refine (rinc_any s[j] _ false _ rfl HPJ.out).mono ?_
            rintro e w1 ⟨rfl, rfl⟩
            go_wp2_with (first
              | (at_builtin; (refine wpList_push wr rfl _ _ 23 rfl w.heap.size 9 i0 (.string ⟨#[]⟩) 1 16 Tryd.underlying23 hi0 hz0' hz1 hz2 rfl (by decide) u3 m (zs.map .string) rfl hv 1 #[.string ⟨#[]⟩] rfl rfl (by simp [Value.oneCell']) (by omega) (by decide) hbw ?_); intro v' w4 hv4 hg4 hat; obtain ⟨g, c, rfl, hgl, hg2, hg3, hgm⟩ := own_posW hv4 (by omega); unfold maxLen at hgm)
              | fail)
            obtain ⟨z, hz⟩ : ∃ z : ByteArray, (⟨#[]⟩ : ByteArray) = z := ⟨_, rfl⟩
            have hO : w4.ownsRow w.heap.size 9 1 (.slice (some ⟨g, 0, none⟩) (m + 1) c) (m + 1) ((zs ++ [z]).map .string) := by
              rw [List.map_append, ← hz]; exact hv4
            have hzd : z.data.toList = [] := by rw [← hz]
            have hzsz : z.size ≤ j + 1 := by rw [← hz]; exact Nat.zero_le _
            have HZS := hide hzsz
            have HINV := hide (fun (z2 : ByteArray) (h : z2.data.toList = z.data.toList ++ [s.data.toList[j + 1]]) => HIN.out z2 (by rw [h, hzd]; rfl))
            have hbl4 : Below w.heap.size w w4 := bl_own hbl hv hg4 (Nat.le_refl _)
            clear hv hv4 hat hz hzd hzsz
            have hcz := last_cell hO HM0.out
            have hfz := World.ownsRow.frozenAt hO m
            have hst := fun z2 => store_last hO HM0.out z2
            have hzs2 : (z ++ s.extract (j + 1) (j + 1 + 1)).size ≤ j + 1 + 1 := by rw [ByteArray.size_append, ByteArray.size_extract]; have := HZS.out; omega
            have hd2 : (z ++ s.extract (j + 1) (j + 1 + 1)).data.toList = z.data.toList ++ [s.data.toList[j + 1]] := by rw [ByteArray.toList_data_append, HX1.out]
            have FIN : ∀ z2 : ByteArray, z2 = z ++ s.extract (j + 1) (j + 1 + 1) → WRel s w (.slice (some ⟨g, 0, none⟩) (m + 1) c) (.int .i64 (((j : Nat) : Int) + 1 + 1)) (w4.drew.setCell ⟨g, m, none⟩ (.string z2)) := by
              rintro z2 rfl
              refine ⟨j + 1 + 1, true, zs ++ [z ++ s.extract (j + 1) (j + 1 + 1)], by go_num, by omega, by simp [HM0.out]; omega, ?_, HPX, HP3 _, HINV.out _ hd2, hst _, bl_set (bl_drew hbl4) (by first | exact hgl | omega) _⟩
              intro y hy
              rcases List.mem_append.1 hy with hy | hy
              · have := HZ0.out y hy; omega
              · rw [List.mem_singleton] at hy; subst hy; exact hzs2
            have HFIN := hide FIN
            have hzk : z.size ≤ j + 1 := HZS.out
            clear FIN hst hO hd2 hzs2
            go_region
            all_goals
              go_wp2
              refine ⟨?_, by first | (simp [intOf]; done) | (simp [intOf]; omega)⟩
              exact HFIN.out _ (by first | rfl | simp)
        · obtain ⟨j, rfl⟩ : ∃ j, k = j + 1 := ⟨k - 1, by
            rcases Nat.eq_zero_or_pos k with h0 | h0
            · have := HP0.out h0; cases this
            · omega⟩
          have hne : zs ≠ [] := by
            intro e
            have := HI.out.last rfl
            rw [e] at this
            exact this rfl
          obtain ⟨zs0, z, rfl⟩ : ∃ a b, zs = a ++ [b] := by
            rcases List.eq_nil_or_concat zs with h0 | ⟨a, b, h0⟩
            · exact absurd h0 hne
            · exact ⟨a, b, by rw [h0, List.concat_eq_append]⟩
          have HPJ : Hid (wordB (s[j]'(by omega)) = true) := hide (HP.out ⟨by omega, by omega⟩)
          obtain ⟨m, hm⟩ : ∃ m, zs0.length = m := ⟨_, rfl⟩
          have hln : (zs0 ++ [z]).length = m + 1 := by simp [hm]
          rw [hln] at hv hzl
          have HM0 := hide hm
          have hinv := HI.out
          rw [List.map_append, List.map_cons, List.map_nil] at hinv
          have hon := winv_on hinv hkl HW.out
          have hinn : ∀ z2 : ByteArray, z2.data.toList = z.data.toList ++ [s.data.toList[j + 1]] → Hid (WInv s.data.toList (j + 1 + 1) true ((zs0 ++ [z2]).map fun z => z.data.toList)) := fun z2 h => hide (by rw [List.map_append, List.map_cons, List.map_nil, h]; exact hon)
          have HINV := hide hinn
          have HZS := hide (hzz z (by simp))
          have HZ0 := hide (fun y (hy : y ∈ zs0) => hzz y (by simp [hy]))
          obtain ⟨g, c, hvv, hgl, hg2, hg3, hgm⟩ := own_posW hv (by omega)
          subst hvv
          unfold maxLen at hgm
          have hO := hv
          have hkz : (((j : Nat) : Int) + 1 == 0) = false := by simp; omega
          clear hzz hm hln hinv hon hinn HI HP HP0 hne hv
          go_wp2_with fail
          refine (rinc_any s[j + 1] _ true _ rfl HW.out).mono ?_
          rintro e w1 ⟨rfl, rfl⟩
          go_wp2_with fail
          refine (rinc_any s[j] _ true _ rfl HPJ.out).mono ?_
          rintro e w1 ⟨rfl, rfl⟩
          have hcz := last_cell hO HM0.out
          have hfz := World.ownsRow.frozenAt hO m
          have hst := fun z2 => store_last hO HM0.out z2
          have hzs2 : (z ++ s.extract (j + 1) (j + 1 + 1)).size ≤ j + 1 + 1 := by rw [ByteArray.size_append, ByteArray.size_extract]; have := HZS.out; omega
          have hd2 : (z ++ s.extract (j + 1) (j + 1 + 1)).data.toList = z.data.toList ++ [s.data.toList[j + 1]] := by rw [ByteArray.toList_data_append, HX1.out]
          have FIN : ∀ z2 : ByteArray, z2 = z ++ s.extract (j + 1) (j + 1 + 1) → WRel s w (.slice (some ⟨g, 0, none⟩) (m + 1) c) (.int .i64 (((j : Nat) : Int) + 1 + 1)) (wr.drew.setCell ⟨g, m, none⟩ (.string z2)) := by
            rintro z2 rfl
            refine ⟨j + 1 + 1, true, zs0 ++ [z ++ s.extract (j + 1) (j + 1 + 1)], by go_num, by omega, by simp [HM0.out]; omega, ?_, HPX, HP3 _, HINV.out _ hd2, hst _, bl_set (bl_drew hbl) (by first | exact hgl | omega) _⟩
            intro y hy
            rcases List.mem_append.1 hy with hy | hy
            · have := HZ0.out y hy; omega
            · rw [List.mem_singleton] at hy; subst hy; exact hzs2
          have HFIN := hide FIN
          have hzk : z.size ≤ j + 1 := HZS.out
          clear FIN hst hO hd2 hzs2
          go_wp2
          go_region
          all_goals
            go_wp2
            refine ⟨?_, by first | (simp [intOf]; done) | (simp [intOf]; omega)⟩
            exact HFIN.out _ (by first | rfl | simp)
    · obtain rfl : k = s.size := by omega
      have hend : ∀ f : UInt8 → UInt8, jn f s.data.toList true true = joinW f (zs.map fun z => z.data.toList) := fun f => by
        have h1 := HI.out.said f
        rw [show s.data.toList.drop s.size = s.data.toList.drop s.data.toList.length from by rw [len_data], jn_end, List.append_nil] at h1
        exact h1
      have hsz : ∀ z ∈ zs, z.size ≤ s.size ∧ 1 ≤ z.size := fun z hz => ⟨hzz z hz, by
        have h1 := HI.out.some z.data.toList (List.mem_map.2 ⟨z, hz, rfl⟩)
        have h2 : z.data.toList.length = z.size := len_data z
        rcases Nat.eq_zero_or_pos z.size with h0 | h0
        · exact absurd (List.eq_nil_of_length_eq_zero (by omega)) h1
        · omega⟩
      have HEND := hide hend
      have HSZ := hide hsz
      clear hend hsz HI HP HP0 hlt
      go_wp2
      go_ret
      exact ⟨_, zs, rfl, hbl, hv, hzl, HSZ.out, HEND⟩
end Go.Proofs.YtbphckblbbbakaaDoor
