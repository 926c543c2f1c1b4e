/- The places of a text's characters are motion's stop places: GoRight leads from each to the next one. Conditions: none beyond the form's own. -/
import Derived.Test.YtodnnhhlpinpbaaRows
import Derived.Test.YtodnnhhlpinpbaaArgs
import Derived.Test.YtodnnhhlpinpbaaChQ
namespace Go.Proofs.Ytodnnhhlpinpbaa.charPlaces
open Go.Proofs.Ytodnnhhlpinpbaa
open Go.ChangeShapes Go.WideShapes Go.ChangeAt Go.RowKit Go.Deep
open Go.ChangeMaps (open_string shut_string)
set_option linter.unusedVariables false

theorem own : ownKnob Try.prog.godebug = none := by kernel_rfl
theorem laidOut : laidOutB Try.prog = true := by kernel_rfl
-- opt:16000000
attribute [local go_sem ↓] Go.wp_at_zero Go.wp_at_succ
attribute [local go_sem] later_cell later_frozen
theorem natC_at (l : List Nat) (i : Nat) (h : i < l.length) : (natC l)[i]? = some (.int .i64 (l[i] : Int)) := by
  unfold natC
  rw [List.getElem?_map, List.getElem?_eq_getElem h]; rfl
theorem fits_place (L : List UInt8) (P : List Nat) (hP : plGo L 0 = P) : 0 < P.length ∧ (∀ h : 0 < P.length, P[0] = 0) ∧ (∀ i (h : i + 1 < P.length), rtM L (P[i]'(by omega)) = P[i + 1] ∧ P[i]'(by omega) < L.length) ∧ ∀ h : P.length - 1 < P.length, P[P.length - 1] = L.length := by
  subst hP
  have h0 := pl_chain L L.length 0 (by omega) (by omega)
  rw [List.drop_zero] at h0
  obtain ⟨h1, h2, h3⟩ := chain_at L _ h0
  exact ⟨h1, fun h => pl_zero L h, h2, h3⟩
theorem pl_many' (l : List UInt8) (i : Nat) : (plGo l i).length ≤ l.length + 1 := by
  induction l generalizing i with
  | nil => simp [plGo]
  | cons c t ih =>
    rw [plGo, List.length_cons]
    have := ih (i + 1)
    split
    · rw [List.length_cons]; omega
    · omega
set_option maxRecDepth 100000 in
set_option maxHeartbeats 16000000 in
theorem walk (a0 : ByteArray) (w : World) (w0 : a0.size ≤ maxLen) :
    Calls Try.prog 6 #[.string a0] w fun e w' => e = .returned (.bool true) ∧ Below w.heap.size w w' := by
  by_cases h0 : a0.size ≤ 100
  · have g0 : decide (100 < (a0.size : Int)) = false := decide_eq_false (by omega)
    go_enter Try.func6, Try.ntmps6
    go_wp2_with fail
    refine (rst_dnew (rst_start w) [2] #[.int .u32 2] rfl (by decide) (by decide) 1 rfl).mono ?_
    rintro e v1 ⟨d, g, rfl, hR, _⟩
    have HN := hide (rst_new1 hR (d := d) (g := g) (by simp) a0 (by omega))
    clear hR
    go_wp2_with fail
    refine HN.out.mono ?_
    rintro e v2 ⟨r, t, rfl, _, htx, hR⟩
    have HL := hide (rst_ln hR (r := r) (d := d) (t := t) (by simp) htx)
    have HB := hide hR.bel
    clear htx hR HN
    go_wp2_with fail
    refine (places_any a0 _ (by omega)).mono ?_
    rintro e v3 ⟨v, P, rfl, hb, ho, HP⟩
    obtain ⟨p1, p2, p3, p4⟩ := fits_place a0.data.toList P HP.out
    have p5 := pl_many' a0.data.toList 0
    rw [HP.out] at p5
    have p6 : P.length ≤ a0.size + 1 := p5
    have HL := hide (HL.out.bl hb)
    have HB := hide (bl_trans HB.out hb)
    rcases own_form ho with ⟨rfl, q1, q2⟩ | ⟨k, c, rfl, q1, q2, q3, q4, q5⟩
    · omega
    · have x0 : v3.cell? ⟨k, 0, none⟩ = some (.int .i64 0) := by
        rw [World.ownsRow.cellAt ho 0 (by omega), natC_at P 0 p1, p2 p1]; rfl
      have x9 : v3.cell? ⟨k, P.length - 1, none⟩ = some (.int .i64 (a0.size : Int)) := by
        rw [World.ownsRow.cellAt ho (P.length - 1) (by omega), natC_at P (P.length - 1) (by omega), p4 (by omega)]; rfl
      have hm1 : IntKind.i64.wrap ((P.length : Int) - 1) = ((P.length - 1 : Nat) : Int) := by rw [IntWalk.i64_in _ (by omega)]; omega
      have hm2 : (P.length : Int) - 1 = ((P.length - 1 : Nat) : Int) := by omega
      have gz : ((P.length : Int) == 0) = false := beq_eq_false_iff_ne.2 (by omega)
      have gz2 : decide (P.length - 1 < P.length) = true := decide_eq_true (by omega)
      have gz3 : decide (0 < P.length) = true := decide_eq_true p1
      have HO := hide ho
      have P3 := hide p3
      clear ho hb q5 p2 p3 p4 p5
      go_wp2
      clear x0 x9 hm1 hm2 gz gz2 gz3
      go_loopw [6] (fun v wr => ∃ i : Nat, v = .int .i64 i ∧ i < P.length ∧ Hid (wr.ownsRow v2.heap.size 3 1 (.slice (some ⟨k, 0, none⟩) P.length c) P.length (natC P)) ∧ Hid (LnAt wr r a0) ∧ Hid (Below w.heap.size w wr)) (fun v _ => P.length - (intOf v).toNat)
      case atStart => exact ⟨0, rfl, p1, HO, HL, HB⟩
      case round =>
        clear HO HL HB
        obtain ⟨i, rfl, hi, HO, HL, HB⟩ := hrel
        have hw1 : IntKind.i64.wrap ((i : Int) + 1) = (i : Int) + 1 := IntWalk.i64_in _ (by omega)
        by_cases hlt : i + 1 < P.length
        · obtain ⟨r1, r2⟩ := P3.out i hlt
          have x1 : wr.cell? ⟨k, i, none⟩ = some (.int .i64 (P[i] : Int)) := by
            rw [World.ownsRow.cellAt HO.out i (by omega), natC_at P i hi]
          have x2 : wr.cell? ⟨k, i + 1, none⟩ = some (.int .i64 (P[i + 1] : Int)) := by
            rw [World.ownsRow.cellAt HO.out (i + 1) (by omega), natC_at P (i + 1) hlt]
          have HS := hide (fun W (hb : Below wr.heap.size wr W) => Step_k (HL.out.bl hb) (by omega) P[i] (by have : a0.data.toList.length = a0.size := rfl; omega) 2 (by decide) (by decide) P[i + 1] r1)
          generalize P[i] = pa at *
          generalize P[i + 1] = pb at *
          have gl : decide ((i : Int) + 1 < (P.length : Int)) = true := decide_eq_true (by omega)
          have gl2 : decide (i + 1 < P.length) = true := decide_eq_true hlt
          have gi : decide (i < P.length) = true := decide_eq_true hi
          have hkw := World.block_lt_of_cell? _ _ x1
          clear r1 r2
          go_wp2
          refine wp_region_later (by kernel_rfl) (by kernel_rfl) ?_
          repeat (go_big_quiet_step (first
            | (go_at_call 27; exact later_call (lnOf_any _ ⟨_, rfl⟩ _))
            | (go_at_call 26; exact later_call (HS.out _ (Later.below _)))
            | exact rfl))
          refine wpQuiet_nil ?_
          rintro w9 ⟨⟨_, hb9⟩, rfl⟩
          have x2 := cell_later hb9 x2
          have HO := hide (own_below HO.out hb9)
          have HL := hide (HL.out.bl hb9)
          have HB := hide (bl_trans HB.out hb9)
          clear hb9 x1
          go_wp2
          refine ⟨?_, by first | (simp [intOf]; done) | (simp [intOf]; omega)⟩
          first
            | exact ⟨i + 1, by go_num, hlt, HO, HL, HB⟩
            | ((repeat apply Exists.intro); exact ⟨⟨i + 1, by go_num, hlt, HO, HL, HB⟩, rfl⟩)
        · have gl : decide ((i : Int) + 1 < (P.length : Int)) = false := decide_eq_false (by omega)
          have gl2 : decide (i + 1 < P.length) = false := decide_eq_false hlt
          go_wp2_with fail
          refine (awake11_any _).mono ?_
          rintro e w9 ⟨rfl, hb⟩
          have HB := hide (bl_trans HB.out hb)
          go_wp2
          go_ret
          exact ⟨rfl, HB.out⟩
  · have g0 : decide (100 < (a0.size : Int)) = true := decide_eq_true (by omega)
    go_enter Try.func6, Try.ntmps6
    go_wp2_with fail
    refine (awake11_any _).mono ?_
    rintro e w9 ⟨rfl, hb⟩
    go_wp2
    go_ret
    exact ⟨rfl, hb⟩

set_option maxRecDepth 100000 in
theorem lifted (os : Os) (started : os.Started) (H : Type) (enc : TypeId × Value → H) :
    ReturnsInHanded {} Try.checked os 6 .any (Rows.charPlacesSpec.pre6 enc Try.prog Try.f6 Rows.charPlacesRow.domain false) (Rows.charPlacesSpec.post enc Try.prog Try.f6 false true false false) := by
  refine returnsInHanded_of_change (C := Try.checked) own started (by kernel_rfl) Try.func6
    (ChangeSpec.witness6 (enc := enc) (C := Try.checked) false ⟨#[], #[.string ByteArray.empty], []⟩ 8 (by kernel_rfl) (by kernel_rfl) (by kernel_rfl) (by kernel_rfl)) ?_
  intro W base args ds gs before hval0 hW hcnd _
  have hval : ∀ (j : Nat) t v, Try.f6.params[j]? = some t → args[j]? = some v → Value.okWide Try.prog W .any base t v := hval0
  have hW' := hW
  obtain ⟨p, q, hA0, hV, rfl, hfz, hnd⟩ := hW
  have hA : DataW.TrodAll enc Try.prog W 0 (fun _ => true) true Try.f6.params.toList args.toList ds p := hA0
  rw [Try.params6] at hA hval
  obtain ⟨v0, vs0, d0, ds0, p0, q0, hargs, rfl, rfl, h0, r0⟩ := trodAll_cons hA
  obtain ⟨rfl, rfl, rfl⟩ := trodAll_nil r0
  obtain rfl : args = #[v0] := by cases args; simp_all
  obtain ⟨rfl, rfl⟩ := trodVars_none hV
  have k0 := h0
  have lt0 : ∀ x ∈ p0, x.block < W.heap.size := by obtain ⟨m, hm⟩ := k0; exact DataW.trod_lt m _ _ _ hm
  obtain ⟨a0, rfl, hd0, hp0, w0⟩ := open_string Try.underlying9 (hval 0 9 v0 rfl rfl) h0
  clear hA0 hval0
  refine (walk a0 W w0).mono fun e W' ⟨he, bel⟩ => ?_
  subst he
  exact ⟨_, rfl, _, _, _, [], _, [], hW', trodAll_mk1 (shut_bool Try.underlying4 _), (trodAll_cons_mk (Below.trod laidOut (by kernel_rfl) (of_decide_eq_true (by kernel_rfl)) k0 bel lt0) trodAll_mk0), rfl, bel.frame _, fun h => by cases h⟩

theorem over : Rows.charPlacesRow.holds Try.pinned (OpenSpec.ofChange Rows.charPlacesSpec) :=
  OpenClaim.holds_of_wide 6 Try.f6 rfl rfl rfl rfl rfl rfl rfl ⟨rfl, rfl, rfl, rfl, rfl⟩ rfl rfl rfl rfl rfl (by kernel_rfl) Try.func6 (by kernel_rfl)
    (of_decide_eq_true (by kernel_rfl)) (by unfold Func.isWrapper; first | (rw [if_pos (by decide +kernel)]; kernel_rfl) | (rw [if_neg (by decide +kernel)]; exact ⟨rfl, rfl⟩))
    (fun os started H enc _ => lifted os started H enc)

theorem proved : Rows.CharPlacesSaid := over
end Go.Proofs.Ytodnnhhlpinpbaa.charPlaces
