/- What is read from a place on does not hang on what stands ahead of it. Conditions: none beyond the form's own. -/
import Derived.Test.YtbphckblbbbakaaRows
import Derived.Test.YtbphckblbbbakaaArgs
import Derived.Test.YtbphckblbbbakaaFmY
namespace Go.Proofs.Ytbphckblbbbakaa.fmtFrom
open Go.Proofs.Ytbphckblbbbakaa
open Go.ChangeShapes Go.WideShapes Go.ChangeAt Go.RowKit Go.Deep
open Go.ChangeMaps (open_string shut_string)
set_option linter.unusedVariables false

theorem own : ownKnob Try.prog.godebug = none := by kernel_rfl
theorem laidOut : laidOutB Try.prog = true := by kernel_rfl
-- opt: 8000000
theorem from_drop (a s : ByteArray) : (a ++ s).data.toList.drop a.size = s.data.toList.drop 0 := by
  rw [ByteArray.toList_data_append, List.drop_zero]
  have : a.size = a.data.toList.length := (Array.length_toList).symm
  rw [this, List.drop_left]
/-- More fuel than a text has bytes changes nothing. -/
theorem read_fuel (m n : Nat) (l g t : List UInt8) (ps : List Fm) (hm : l.length < m) (hn : l.length < n) : readF m l g t ps = readF n l g t ps := by
  induction m generalizing n l g t ps with
  | zero => omega
  | succ m ih =>
    obtain ⟨n, rfl⟩ : ∃ k, n = k + 1 := ⟨n - 1, by omega⟩
    rcases l with _ | ⟨c, l⟩
    · rfl
    · unfold readF
      by_cases hc : c = 47
      · rw [if_pos hc, if_pos hc]
      · rw [if_neg hc, if_neg hc]
        generalize hp : partF (c :: l) g = y
        rcases y with ⟨_ | ⟨f, r⟩, g'⟩
        · dsimp only
          obtain ⟨d, r, he, _, hle⟩ := esc_is inT c l
          rw [he]
          simp only [List.length_cons] at hm hn
          exact ih n r g' _ _ (by omega) (by omega)
        · dsimp only
          obtain ⟨_, _, hrl, _⟩ := part_is hp
          simp only [List.length_cons] at hm hn hrl
          exact ih n r g' _ _ (by omega) (by omega)
set_option maxRecDepth 100000 in
set_option maxHeartbeats 8000000 in
theorem walk (a0 : ByteArray) (a1 : ByteArray) (w : World) (w0 : a0.size ≤ maxLen) (w1 : a1.size ≤ maxLen) :
    Calls Try.prog 5 #[.string a0, .string a1] w fun e w' => e = .returned (.bool true) ∧ Below w.heap.size w w' := by
  by_cases hA : 100 < a0.size
  · have g1 : decide ((100 : Int) < (a0.size : Int)) = true := decide_eq_true (by omega)
    have g1' : decide (100 < a0.size) = true := decide_eq_true hA
    clear hA
    go_enter Try.func5, Try.ntmps5
    go_wp2_with fail
    refine (awake18_any _).mono ?_
    rintro e w9 ⟨rfl, hb9⟩
    go_wp2
    go_ret
    exact ⟨rfl, hb9⟩
  have g1 : decide ((100 : Int) < (a0.size : Int)) = false := decide_eq_false (by omega)
  have g1' : decide (100 < a0.size) = false := decide_eq_false hA
  by_cases hB : 100 < a1.size
  · have g2 : decide ((100 : Int) < (a1.size : Int)) = true := decide_eq_true (by omega)
    have g2' : decide (100 < a1.size) = true := decide_eq_true hB
    clear hA hB
    go_enter Try.func5, Try.ntmps5
    go_wp2_with fail
    refine (awake18_any _).mono ?_
    rintro e w9 ⟨rfl, hb9⟩
    go_wp2
    go_ret
    exact ⟨rfl, hb9⟩
  have g2 : decide ((100 : Int) < (a1.size : Int)) = false := decide_eq_false (by omega)
  have g2' : decide (100 < a1.size) = false := decide_eq_false hB
  obtain ⟨z, hz⟩ : ∃ z, readF (a1.size + 1) (a1.data.toList.drop 0) [] [] [] = z := ⟨_, rfl⟩
  have hsz : (a0 ++ a1).size = a0.size + a1.size := ByteArray.size_append
  have hl1 : (a1.data.toList.drop 0).length = a1.size := by rw [List.drop_zero, Array.length_toList]; rfl
  have hz2 : readF ((a0 ++ a1).size + 1) ((a0 ++ a1).data.toList.drop a0.size) [] [] [] = z := by
    rw [from_drop, ← hz]
    exact read_fuel _ _ _ _ _ _ (by omega) (by omega)
  have HR1 := hide (fun W => read_any (w := W) (s := a1) (k := 0) (Nat.zero_le _) (by omega) z hz)
  have HR2 := hide (fun W => read_any (w := W) (s := a0 ++ a1) (k := a0.size) (by omega) (by omega) z hz2)
  have HRI := hide (fun fs r (h : z = some (fs, r)) => read_is (a1.size + 1) a1.size (a1.data.toList.drop 0) [] [] [] rfl (fun d hd => by cases hd) (by rw [hl1]; simp) (fun d hd => by cases hd) fs r (hz.trans h))
  obtain ⟨S, hS⟩ : ∃ S, a0 ++ a1 = S := ⟨_, rfl⟩
  rw [hS] at HR2 hsz
  have HL1 := hide hl1
  have HS := hide hS
  have hA2 : a0.size ≤ 100 := by omega
  have hB2 : a1.size ≤ 100 := by omega
  clear hz hz2 hl1 hS hA hB
  rcases z with _ | ⟨fs, r⟩
  · go_enter Try.func5, Try.ntmps5
    go_wp2_with fail
    refine (HR1.out _).mono ?_
    rintro e w1 ⟨rfl, hb1⟩
    have hs := HS.out
    go_wp2_with fail
    refine (HR2.out _).mono ?_
    rintro e w2 ⟨rfl, hb2⟩
    have hb12 := bl_trans hb1 hb2
    clear hb1 hb2 hs
    go_wp2_with fail
    refine (fmts_same _ _ [] _ (.inl ⟨rfl, rfl⟩) (.inl ⟨rfl, rfl⟩) (Nat.zero_le _)).mono ?_
    rintro e w3 ⟨rfl, hb3⟩
    have hb13 := bl_trans hb12 hb3
    clear hb12 hb3
    go_wp2_with fail
    refine (awake18_any _).mono ?_
    rintro e w9 ⟨rfl, hb9⟩
    go_wp2
    go_ret
    exact ⟨rfl, bl_trans hb13 hb9⟩
  · obtain ⟨_, _, hsf, hszl, hlen⟩ := HRI.out fs r rfl
    have hrl := hsf.length_le
    rw [HL1.out] at hrl hlen
    obtain ⟨p, hp⟩ : ∃ p, a1.size - r.length = p := ⟨_, rfl⟩
    have hq : S.size - r.length = p + a0.size := by omega
    unfold RePost at HR1 HR2
    dsimp only at HR1 HR2
    rw [hp] at HR1
    rw [hq] at HR2
    have g3 : IntKind.i64.wrap ((p : Int) + (a0.size : Int)) = (p : Int) + (a0.size : Int) := by rw [IntKind.wrap_i64]; omega
    have g4 : (((p + a0.size : Nat) : Int) == (p : Int) + (a0.size : Int)) = true := by simp
    have hfl : fs.length ≤ 1000000 := by simp at hlen; omega
    have hpl : p ≤ 100 := by omega
    clear hsf hszl hlen hrl hp hq HRI
    go_enter Try.func5, Try.ntmps5
    go_wp2_with fail
    refine (HR1.out _).mono ?_
    rintro e w1 ⟨v, rfl, hv, hb1⟩
    have HV := hide hv
    have HB1 := hide hb1
    have hs := HS.out
    clear hv hb1
    go_wp2_with fail
    refine (HR2.out _).mono ?_
    rintro e w2 ⟨u, rfl, hu, hb2⟩
    have HV2 := hide (fmat_below HV.out hb2)
    have HU := hide hu
    have HB2 := hide (bl_trans HB1.out hb2)
    clear hu hb2 hs
    go_wp2_with fail
    refine (fmts_same _ _ fs _ HV2.out HU.out hfl).mono ?_
    rintro e w3 ⟨rfl, hb3⟩
    have HB3 := hide (bl_trans HB2.out hb3)
    clear hb3
    go_wp2_with fail
    refine (awake18_any _).mono ?_
    rintro e w9 ⟨rfl, hb9⟩
    have HB9 := hide (bl_trans HB3.out hb9)
    clear hb9
    go_wp2
    go_ret
    exact ⟨rfl, HB9.out⟩

set_option maxRecDepth 100000 in
theorem lifted (os : Os) (started : os.Started) (H : Type) (enc : TypeId × Value → H) :
    ReturnsInHanded {} Try.checked os 5 .any (Rows.fmtFromSpec.pre6 enc Try.prog Try.f5 Rows.fmtFromRow.domain false) (Rows.fmtFromSpec.post enc Try.prog Try.f5 false true false false) := by
  refine returnsInHanded_of_change (C := Try.checked) own started (by kernel_rfl) Try.func5
    (ChangeSpec.witness6 (enc := enc) (C := Try.checked) false ⟨#[], #[.string ByteArray.empty, .string ByteArray.empty], []⟩ 8 (by kernel_rfl) (by kernel_rfl) (by kernel_rfl) (by kernel_rfl)) ?_
  intro W base args ds gs before hval0 hW hcnd _
  have hval : ∀ (j : Nat) t v, Try.f5.params[j]? = some t → args[j]? = some v → Value.okWide Try.prog W .any base t v := hval0
  have hW' := hW
  obtain ⟨p, q, hA0, hV, rfl, hfz, hnd⟩ := hW
  have hA : DataW.TrodAll enc Try.prog W 0 (fun _ => true) true Try.f5.params.toList args.toList ds p := hA0
  rw [Try.params5] at hA hval
  obtain ⟨v0, vs0, d0, ds0, p0, q0, hargs, rfl, rfl, h0, r0⟩ := trodAll_cons hA
  obtain ⟨v1, vs1, d1, ds1, p1, q1, rfl, rfl, rfl, h1, r1⟩ := trodAll_cons r0
  obtain ⟨rfl, rfl, rfl⟩ := trodAll_nil r1
  obtain rfl : args = #[v0, v1] := by cases args; simp_all
  obtain ⟨rfl, rfl⟩ := trodVars_none hV
  have k0 := h0
  have lt0 : ∀ x ∈ p0, x.block < W.heap.size := by obtain ⟨m, hm⟩ := k0; exact DataW.trod_lt m _ _ _ hm
  obtain ⟨a0, rfl, hd0, hp0, w0⟩ := open_string Try.underlying9 (hval 0 9 v0 rfl rfl) h0
  have k1 := h1
  have lt1 : ∀ x ∈ p1, x.block < W.heap.size := by obtain ⟨m, hm⟩ := k1; exact DataW.trod_lt m _ _ _ hm
  obtain ⟨a1, rfl, hd1, hp1, w1⟩ := open_string Try.underlying9 (hval 1 9 v1 rfl rfl) h1
  clear hA0 hval0
  refine (walk a0 a1 W w0 w1).mono fun e W' ⟨he, bel⟩ => ?_
  subst he
  exact ⟨_, rfl, _, _, _, [], _, [], hW', trodAll_mk1 (shut_bool Try.underlying4 _), (trodAll_cons_mk (Below.trod laidOut (by kernel_rfl) (of_decide_eq_true (by kernel_rfl)) k0 bel lt0) (trodAll_cons_mk (Below.trod laidOut (by kernel_rfl) (of_decide_eq_true (by kernel_rfl)) k1 bel lt1) trodAll_mk0)), rfl, bel.frame _, fun h => by cases h⟩

theorem over : Rows.fmtFromRow.holds Try.pinned (OpenSpec.ofChange Rows.fmtFromSpec) :=
  OpenClaim.holds_of_wide 5 Try.f5 rfl rfl rfl rfl rfl rfl rfl ⟨rfl, rfl, rfl, rfl, rfl⟩ rfl rfl rfl rfl rfl (by kernel_rfl) Try.func5 (by kernel_rfl)
    (of_decide_eq_true (by kernel_rfl)) (by unfold Func.isWrapper; first | (rw [if_pos (by decide +kernel)]; kernel_rfl) | (rw [if_neg (by decide +kernel)]; exact ⟨rfl, rfl⟩))
    (fun os started H enc _ => lifted os started H enc)

theorem proved : Rows.FmtFromSaid := over
end Go.Proofs.Ytbphckblbbbakaa.fmtFrom
