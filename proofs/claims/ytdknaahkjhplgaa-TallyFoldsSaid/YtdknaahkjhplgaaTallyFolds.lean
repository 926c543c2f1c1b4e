/- Fold of what texts have is what they have one behind the other. Conditions: none beyond the form's own. -/
import Derived.Test.YtdknaahkjhplgaaRows
import Derived.Test.YtdknaahkjhplgaaArgs
import Derived.Test.YtdknaahkjhplgaaFold
import Derived.Test.YtdknaahkjhplgaaLong
namespace Go.Proofs.Ytdknaahkjhplgaa.tallyFolds
open Go.Proofs.Ytdknaahkjhplgaa
open Go.ChangeShapes Go.WideShapes Go.ChangeAt Go.RowKit Go.Deep
open Go.ChangeMaps (open_string shut_string)
set_option linter.unusedVariables false

theorem own : ownKnob Try.prog.godebug = none := by kernel_rfl
theorem laidOut : laidOutB Try.prog = true := by kernel_rfl
def comp (c : Nat) (l : List UInt8) : Int := if c = 0 then l.length else if c = 1 then nBrk l else if c = 2 then nRun l else nBig l + nRun l
theorem comp_app (c : Nat) (l m : List UInt8) : comp c (l ++ m) = comp c l + comp c m := by
  unfold comp; rw [nBrk_app, nRun_app, nBig_app, List.length_append]; repeat' split
  all_goals omega
theorem comp_bd (c : Nat) (l : List UInt8) : 0 ≤ comp c l ∧ comp c l ≤ 2 * l.length := by
  have hb := nBrk_le l
  have hr := nRun_le l
  have hg := nBig_le l
  unfold comp; repeat' split
  all_goals omega
def bytesOf (z : List ByteArray) (i : Nat) : List UInt8 := (z.getD i ByteArray.empty).data.toList
def flat (z : List ByteArray) (k : Nat) : List UInt8 := (List.range k).flatMap (bytesOf z)
theorem flat_succ (z : List ByteArray) (k : Nat) : flat z (k + 1) = flat z k ++ bytesOf z k := by
  unfold flat; rw [List.range_succ, List.flatMap_append]; simp
theorem flat_tot (z : List ByteArray) : ∀ k, k ≤ z.length → (flat z k).length ≤ tot z := by
  have key : ∀ (l : List ByteArray) k, k ≤ l.length → (flat l k).length = tot (l.take k) := by
    intro l k
    induction k with
    | zero => intro _; simp [flat, tot]
    | succ k ih =>
      intro hk
      have happ : ∀ (x y : List ByteArray), tot (x ++ y) = tot x + tot y := by
        intro x y; induction x with
        | nil => simp [tot]
        | cons a r ih2 => simp [tot, ih2]; omega
      rw [flat_succ, List.length_append, ih (by omega), List.take_succ_eq_append_getElem (by omega), happ]
      simp [tot, bytesOf, List.getD, show k < l.length by omega]
  intro k hk
  rw [key z k hk]
  have : ∀ (l : List ByteArray) k, tot (l.take k) ≤ tot l := by
    intro l
    induction l with
    | nil => intro k; simp [tot]
    | cons a r ih => intro k; cases k with
      | zero => simp [tot]
      | succ k => have := ih k; simp [tot]; omega
  exact this z k
theorem foldW_flat (z : List ByteArray) (c : Nat) (n : Nat) (h : ∀ k, k ≤ n → (flat z k).length ≤ 1000) : foldW (fun i => comp c (bytesOf z i)) n = comp c (flat z n) := by
  induction n with
  | zero => simp [foldW, flat, comp, nBrk, nRun, nBig]
  | succ n ih =>
    rw [foldW, ih (fun k hk => h k (by omega)), flat_succ, comp_app]
    have h1 := comp_bd c (flat z n)
    have h2 := comp_bd c (bytesOf z n)
    have h3 := h (n + 1) (Nat.le_refl _)
    rw [flat_succ, List.length_append] at h3
    unfold wrap64
    omega
def talCells (l : List UInt8) : List Value := [.int .i64 (comp 0 l), .int .i64 (comp 1 l), .int .i64 (comp 2 l), .int .i64 (comp 3 l)]
def rows (z : List ByteArray) (k : Nat) : List Value := (List.range k).flatMap fun i => talCells (bytesOf z i)
theorem rows_succ (z : List ByteArray) (k : Nat) : rows z (k + 1) = rows z k ++ talCells (bytesOf z k) := by
  unfold rows; rw [List.range_succ, List.flatMap_append]; simp
theorem rows_len (z : List ByteArray) (k : Nat) : (rows z k).length = k * 4 := by
  induction k with
  | zero => rfl
  | succ k ih => rw [rows_succ, List.length_append, ih]; simp [talCells]; omega
theorem rows_at (z : List ByteArray) (k i c : Nat) (hi : i < k) (hc : c < 4) : (rows z k)[i * 4 + c]? = some (.int .i64 (comp c (bytesOf z i))) := by
  induction k with
  | zero => omega
  | succ k ih =>
    rw [rows_succ]
    by_cases h : i < k
    · rw [List.getElem?_append_left (by rw [rows_len]; omega)]
      exact ih h
    · obtain rfl : i = k := by omega
      rw [List.getElem?_append_right (by rw [rows_len]; omega), rows_len, show i * 4 + c - i * 4 = c by omega]
      match c, hc with
      | 0, _ => rfl
      | 1, _ => rfl
      | 2, _ => rfl
      | 3, _ => rfl
theorem tal_comp (l : List UInt8) : talOf l = .agg #[.int .i64 (comp 0 l), .int .i64 (comp 1 l), .int .i64 (comp 2 l), .int .i64 (comp 3 l)] := rfl
theorem info_tal : (Try.prog.info? 35).map (fun i => (i.zero, i.size, i.bytes)) = some (some (.agg #[.int .i64 0, .int .i64 0, .int .i64 0, .int .i64 0]), 4, 32) := by kernel_rfl
theorem fold_nil (w : World) : Calls Try.prog 25 #[.slice none 0 0] w fun e w' => e = .returned (.agg #[.int .i64 0, .int .i64 0, .int .i64 0, .int .i64 0]) ∧ Below w.heap.size w w' := by
  go_enter Try.func25, Try.ntmps25
  go_wp2
  go_loopw [8] (fun i wr => i = .int .i64 0 ∧ wr = (w.alloc (.cells #[.int .i64 0, .int .i64 0, .int .i64 0, .int .i64 0] 35)).alloc (.cells #[.int .i64 0, .int .i64 0, .int .i64 0, .int .i64 0] 35))
    (fun i _ => 0)
  case atStart => exact ⟨rfl, rfl⟩
  case round =>
    obtain ⟨rfl, rfl⟩ := hrel
    go_wp2
    exact bodyPost_ret (v := .agg #[.int .i64 0, .int .i64 0, .int .i64 0, .int .i64 0]) (by simp [results, Try.results25, go_sem]) rfl ⟨rfl, (by repeat (first | exact bl_refl _ | assumption | refine bl_alloc ?_ _ | refine bl_drewN ?_ _ | refine bl_drew ?_ | refine bl_trans ?_ (by assumption)))⟩
theorem foldrow_any (w : World) (B n : Nat) (v : Value) (z : List ByteArray) (h : w.ownsRow B 35 4 v n (rows z n)) (hn : n ≤ 1000) (hf : ∀ k, k ≤ n → (flat z k).length ≤ 1000) :
    Calls Try.prog 25 #[v] w fun e w' => e = .returned (talOf (flat z n)) ∧ Below w.heap.size w w' := by
  rcases own_form h with ⟨rfl, rfl, _⟩ | ⟨g, c, rfl, hb, hg, hnc, hcm, hcell⟩
  · exact fold_nil w
  · unfold maxLen at hcm
    have := fold_any w g 0 n c (fun i j => comp j (bytesOf z i)) hn hnc hcm (fun i hi => ⟨?_, ?_, ?_, ?_⟩)
    · rw [foldW_flat z 0 n hf, foldW_flat z 1 n hf, foldW_flat z 2 n hf, foldW_flat z 3 n hf, ← tal_comp] at this
      exact this
    · rw [Nat.zero_add]; exact hcell _ _ (rows_at z n i 0 hi (by omega))
    · rw [Nat.zero_add]; exact hcell _ _ (rows_at z n i 1 hi (by omega))
    · rw [Nat.zero_add]; exact hcell _ _ (rows_at z n i 2 hi (by omega))
    · rw [Nat.zero_add]; exact hcell _ _ (rows_at z n i 3 hi (by omega))
set_option maxRecDepth 100000 in
set_option maxHeartbeats 1000000 in
theorem walk (a0 : Option Addr) (len0 cap0 : Nat) (z0 : List ByteArray) (w : World) (w0 : IsStrs w a0 len0 cap0 z0) :
    Calls Try.prog 9 #[.slice a0 len0 cap0] w fun e w' => e = .returned (.bool true) ∧ Below w.heap.size w w' := by
  have hlen := strs_len w0
  by_cases hs : len0 ≤ 30
  · cases hL : longL 300 (z0.take len0)
    · have hsrc : 0 < len0 → ∃ bx off, a0 = some ⟨bx, off, none⟩ ∧ len0 ≤ z0.length ∧ len0 ≤ cap0 ∧ cap0 ≤ maxLen ∧ ∀ i, i < z0.length → w.cell? ⟨bx, off + i, none⟩ = some (.string (z0.getD i ByteArray.empty)) := fun hp => strs_cell w0 hp
      have ht := tot_le _ 300 (by omega) hL
      have hf : ∀ k, k ≤ len0 → (flat (z0.take len0) k).length ≤ 300 := fun k hk => by
        have := flat_tot (z0.take len0) k (by simp; omega)
        omega
      have hgd : ∀ k, k < len0 → (z0.take len0).getD k ByteArray.empty = z0.getD k ByteArray.empty := fun k hk => getD_take z0 len0 k _ hk
      obtain ⟨i0, hi0, hz0', hz1, hz2⟩ := info_parts info_tal
      have HSRC := hide hsrc
      have HF := hide hf
      have HGD := hide hgd
      have HL := hide hL
      clear hsrc hf hgd hL ht
      go_enter Try.func9, Try.ntmps9
      go_wp2_with fail
      refine (long_any w 300 a0 len0 cap0 z0 w0 (by omega) (by omega)).mono ?_
      rintro e w1 ⟨rfl, rfl⟩
      rw [HL.out]
      clear w0
      go_wp2
      go_loopw [3, 4, 5] (fun s v i wr => ∃ (k : Nat) (A : ByteArray), k ≤ len0 ∧ i = .int .i64 k ∧ s = .string A ∧ Hid (A.data.toList = flat (z0.take len0) k) ∧ A.size ≤ 300 ∧ wr.ownsRow w.heap.size 35 4 v k (rows (z0.take len0) k) ∧ Below w.heap.size w wr)
        (fun _ _ i _ => len0 - (intOf i).toNat)
      case atStart => exact ⟨0, ByteArray.empty, Nat.zero_le _, rfl, rfl, hide rfl, by simp, World.ownsRow_nil _ _ _ _, bl_refl w⟩
      case round =>
        obtain ⟨k, A, hk, rfl, rfl, HA, hA, hv, hbl⟩ := hrel
        by_cases hlt : k < len0
        · obtain ⟨bx, off, rfl, hc1, hc2, hc3, hcs⟩ := HSRC.out (by omega)
          have hc := cell_later hbl (hcs k (by omega))
          have hbk : bytesOf (z0.take len0) k = (z0.getD k ByteArray.empty).data.toList := by unfold bytesOf; rw [HGD.out k hlt]
          have hfk := HF.out (k + 1) (by omega)
          rw [flat_succ, hbk, List.length_append, ← HA.out, len_data, len_data] at hfk
          unfold maxLen at hc3
          clear hcs
          generalize z0.getD k ByteArray.empty = sk at *
          have HB := hide hbk
          clear hbk
          go_wp2_with fail
          refine (of_any sk _ (by omega)).mono ?_
          rintro e w2 ⟨rfl, hb2⟩
          have hv2 := own_below hv hb2
          have hbl2 := bl_trans hbl hb2
          rw [tal_comp]
          clear hv
          go_wp2_with (at_builtin; go_must (refine wpList_push w2 rfl _ _ 44 rfl w.heap.size 35 i0 (.agg #[.int .i64 0, .int .i64 0, .int .i64 0, .int .i64 0]) 4 32 Try.underlying44 hi0 hz0' hz1 hz2 rfl (by decide) u4 k (rows (z0.take len0) k) rfl hv2 1 #[.int .i64 (comp 0 sk.data.toList), .int .i64 (comp 1 sk.data.toList), .int .i64 (comp 2 sk.data.toList), .int .i64 (comp 3 sk.data.toList)] rfl rfl (by simp [Value.oneCell']) (by omega) (by decide) hbl2.size ?_); intro v' w3 hv3 hg3 hat)
          have hv4 : w3.ownsRow w.heap.size 35 4 v' (k + 1) (rows (z0.take len0) (k + 1)) := by rw [rows_succ, HB.out]; exact hv3
          have hbl3 : Below w.heap.size w w3 := bl_own hbl2 hv2 hg3 (Nat.le_refl _)
          have HA2 : Hid ((A ++ sk).data.toList = flat (z0.take len0) (k + 1)) := hide (by rw [flat_succ, HB.out, ← HA.out]; simp)
          refine ⟨?_, by simp [intOf]; omega⟩
          first
            | exact ⟨k + 1, A ++ sk, by omega, by go_num, rfl, HA2, by simp; omega, hv4, hbl3⟩
            | ((repeat apply Exists.intro); exact ⟨⟨k + 1, A ++ sk, by omega, by go_num, rfl, HA2, by simp; omega, hv4, hbl3⟩, rfl⟩)
        · obtain rfl : k = len0 := by omega
          go_wp2_with fail
          refine (foldrow_any _ _ _ _ (z0.take k) hv (by omega) (fun j hj => Nat.le_trans (HF.out j hj) (by omega))).mono ?_
          rintro e w2 ⟨rfl, hb2⟩
          go_wp2_with fail
          refine (of_any A _ (by omega)).mono ?_
          rintro e w3 ⟨rfl, hb3⟩
          rw [HA.out, tal_comp]
          go_wp2_with fail
          refine (fold_nil _).mono ?_
          rintro e w4 ⟨rfl, hb4⟩
          go_wp2_with fail
          refine (awake2_any _).mono ?_
          rintro e w5 ⟨rfl, hb5⟩
          go_wp2
          go_ret
          exact ⟨rfl, bl_trans (bl_trans (bl_trans (bl_trans hbl hb2) hb3) hb4) hb5⟩
    · have HL := hide hL
      clear hL
      go_enter Try.func9, Try.ntmps9
      go_wp2_with fail
      refine (long_any w 300 a0 len0 cap0 z0 w0 (by omega) (by omega)).mono ?_
      rintro e w1 ⟨rfl, rfl⟩
      rw [HL.out]
      go_wp2_with fail
      refine (awake2_any _).mono ?_
      rintro e w1 ⟨rfl, hb1⟩
      go_wp2
      go_ret
      exact ⟨rfl, hb1⟩
  · go_enter Try.func9, Try.ntmps9
    go_wp2_with fail
    refine (awake2_any _).mono ?_
    rintro e w1 ⟨rfl, hb1⟩
    go_wp2
    go_ret
    exact ⟨rfl, hb1⟩

set_option maxRecDepth 100000 in
theorem lifted (os : Os) (started : os.Started) (H : Type) (enc : TypeId × Value → H) :
    ReturnsInHanded {} Try.checked os 9 .any (Rows.tallyFoldsSpec.pre6 enc Try.prog Try.f9 Rows.tallyFoldsRow.domain false) (Rows.tallyFoldsSpec.post enc Try.prog Try.f9 false true false false) := by
  refine returnsInHanded_of_change (C := Try.checked) own started (by kernel_rfl) Try.func9
    (ChangeSpec.witness6 (enc := enc) (C := Try.checked) false ⟨#[], #[.slice none 0 0], []⟩ 8 (by kernel_rfl) (by kernel_rfl) (by kernel_rfl) (by kernel_rfl)) ?_
  intro W base args ds gs before hval0 hW hcnd _
  have hval : ∀ (j : Nat) t v, Try.f9.params[j]? = some t → args[j]? = some v → Value.okWide Try.prog W .any base t v := hval0
  have hW' := hW
  obtain ⟨p, q, hA0, hV, rfl, hfz, hnd⟩ := hW
  have hA : DataW.TrodAll enc Try.prog W 0 (fun _ => true) true Try.f9.params.toList args.toList ds p := hA0
  rw [Try.params9] at hA hval
  obtain ⟨v0, vs0, d0, ds0, p0, q0, hargs, rfl, rfl, h0, r0⟩ := trodAll_cons hA
  obtain ⟨rfl, rfl, rfl⟩ := trodAll_nil r0
  obtain rfl : args = #[v0] := by cases args; simp_all
  obtain ⟨rfl, rfl⟩ := trodVars_none hV
  have k0 := h0
  have lt0 : ∀ x ∈ p0, x.block < W.heap.size := by obtain ⟨m, hm⟩ := k0; exact DataW.trod_lt m _ _ _ hm
  obtain ⟨a0, len0, cap0, rfl⟩ := okWide_slice Try.underlying42 (hval 0 42 v0 rfl rfl)
  obtain ⟨z0, w0⟩ : ∃ zs, IsStrs W a0 len0 cap0 zs := by
    obtain ⟨fuel, hf⟩ := h0
    rcases open_strings Try.underlying42 Try.underlying9 (by kernel_rfl) hf with ⟨hcs, _⟩ | ⟨x, l, c, zs, hcs, _, hl, hm, hz, _, hcell, hwz⟩
    · simp [Value.cells] at hcs
      obtain ⟨rfl, rfl, rfl⟩ := hcs
      exact ⟨[], .inl ⟨rfl, rfl, rfl, rfl⟩⟩
    · simp [Value.cells] at hcs
      obtain ⟨rfl, rfl, rfl⟩ := hcs
      exact ⟨zs, .inr ⟨_, rfl, hl, hm, by simpa using hz, hcell, hwz⟩⟩
  clear hA0 hval0
  refine (walk a0 len0 cap0 z0 W w0).mono fun e W' ⟨he, bel⟩ => ?_
  subst he
  exact ⟨_, rfl, _, _, _, [], _, [], hW', trodAll_mk1 (shut_bool Try.underlying4 _), (trodAll_cons_mk (Below.trod laidOut (by kernel_rfl) (of_decide_eq_true (by kernel_rfl)) k0 bel lt0) trodAll_mk0), rfl, bel.frame _, fun h => by cases h⟩

theorem over : Rows.tallyFoldsRow.holds Try.pinned (OpenSpec.ofChange Rows.tallyFoldsSpec) :=
  OpenClaim.holds_of_wide 9 Try.f9 rfl rfl rfl rfl rfl rfl rfl ⟨rfl, rfl, rfl, rfl, rfl⟩ rfl rfl rfl rfl rfl (by kernel_rfl) Try.func9 (by kernel_rfl)
    (of_decide_eq_true (by kernel_rfl)) (by unfold Func.isWrapper; first | (rw [if_pos (by decide +kernel)]; kernel_rfl) | (rw [if_neg (by decide +kernel)]; exact ⟨rfl, rfl⟩))
    (fun os started H enc _ => lifted os started H enc)

theorem proved : Rows.TallyFoldsSaid := over
end Go.Proofs.Ytdknaahkjhplgaa.tallyFolds
