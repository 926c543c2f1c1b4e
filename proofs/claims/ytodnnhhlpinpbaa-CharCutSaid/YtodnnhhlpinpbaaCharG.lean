/- Contracts: two slices of numbers held against one another; Proper and Word, of the package and of the reference. No condition but short texts. -/
import Derived.Test.YtodnnhhlpinpbaaCharF
namespace Go.Proofs.Ytodnnhhlpinpbaa
open Go.ChangeShapes Go.WideShapes Go.ChangeAt Go.RowKit
/-- The slice reads as l. -/
def NtAt (w : World) (v : Value) (l : List Nat) : Prop :=
  (v = .slice none 0 0 ∧ l = []) ∨
  ∃ b off c, v = .slice (some ⟨b, off, none⟩) l.length c ∧ l.length ≤ c ∧ c ≤ maxLen ∧ ∀ i (h : i < l.length), w.cell? ⟨b, off + i, none⟩ = some (.int .i64 ((l[i] : Nat) : Int))
theorem ntat_len {w : World} {v : Value} {l : List Nat} (h : NtAt w v l) : ∃ a c, v = .slice a l.length c := by
  rcases h with ⟨rfl, rfl⟩ | ⟨b, off, c, rfl, _⟩
  · exact ⟨none, 0, rfl⟩
  · exact ⟨_, c, rfl⟩
theorem ntat_below {w w' : World} {v : Value} {l : List Nat} (h : NtAt w v l) (hb : Below w.heap.size w w') : NtAt w' v l := by
  rcases h with h | ⟨b, off, c, rfl, h1, h2, h3⟩
  · exact .inl h
  · exact .inr ⟨b, off, c, rfl, h1, h2, fun i hi => cell_later hb (h3 i hi)⟩
theorem ntat_some {w : World} {v : Value} {l : List Nat} (h : NtAt w v l) (hp : 0 < l.length) :
    ∃ b off c, v = .slice (some ⟨b, off, none⟩) l.length c ∧ l.length ≤ c ∧ c ≤ maxLen ∧ ∀ i (h : i < l.length), w.cell? ⟨b, off + i, none⟩ = some (.int .i64 ((l[i] : Nat) : Int)) := by
  rcases h with ⟨rfl, rfl⟩ | h
  · simp at hp
  · exact h
theorem own_ntat {w : World} {base : Nat} {v : Value} {l : List Nat} (h : w.ownsRow base 3 1 v l.length (natC l)) : NtAt w v l := by
  rcases own_form h with ⟨rfl, h1, h2⟩ | ⟨g, c, rfl, h1, h2, h3, h4, h5⟩
  · exact .inl ⟨rfl, List.eq_nil_of_length_eq_zero h1⟩
  · refine .inr ⟨g, 0, c, rfl, h3, h4, fun i hi => ?_⟩
    rw [Nat.zero_add]
    exact h5 i _ (by simp [natC, hi])
set_option maxRecDepth 100000 in
set_option maxHeartbeats 1000000 in
theorem ints_any (v u : Value) (l k : List Nat) (w : World) (h : NtAt w v l) (g : NtAt w u k) (hl : l.length ≤ 1000) (hk : k.length ≤ 1000) :
    Calls Try.prog 12 #[v, u] w fun e w' => e = .returned (.bool (decide (l = k))) ∧ ∃ n, w' = w.drewN n := by
  obtain ⟨a, c, rfl⟩ := ntat_len h
  obtain ⟨b, d, rfl⟩ := ntat_len g
  by_cases hlen : l.length = k.length
  · have e1 : ((l.length : Int) != (k.length : Int)) = false := by simp [hlen]
    by_cases hp : 0 < l.length
    · obtain ⟨b1, o1, c1, hv1, hc1, hm1, hcell1⟩ := ntat_some h hp
      obtain ⟨b2, o2, c2, hv2, hc2, hm2, hcell2⟩ := ntat_some g (by omega)
      injection hv1 with hv1 _ hv1c
      injection hv2 with hv2 _ hv2c
      subst hv1 hv2 hv1c hv2c
      unfold maxLen at hm1 hm2
      clear h g hp
      obtain ⟨r, hr⟩ : ∃ r, decide (l = k) = r := ⟨_, rfl⟩
      rw [hr]
      have HRR := hide hr.symm
      clear hr
      have HL := hide hlen
      have hlen' : l.length ≤ k.length := by omega
      clear hlen
      go_enter Try.func12, Try.ntmps12
      go_wp2
      go_loopw [5] (fun i wr => ∃ j n : Nat, j ≤ l.length ∧ i = .int .i64 j ∧ Hid (l.take j = k.take j) ∧ w.drewN n = wr)
        (fun i _ => l.length - (intOf i).toNat)
      case atStart => exact ⟨0, 0, Nat.zero_le _, rfl, hide rfl, rfl⟩
      case round =>
        obtain ⟨j, n, hj, rfl, HT, rfl⟩ := hrel
        by_cases hlt : j < l.length
        · have x1 := hcell1 j hlt
          have x2 := hcell2 j (by omega)
          by_cases he : l[j] = k[j]
          · have hd : (((l[j] : Nat) : Int) != ((k[j] : Nat) : Int)) = false := by simp [he]
            have HT2 := hide (take_eq_succ l k j hlt (by omega) HT.out he)
            clear he HT
            go_wp2
            go_quiet (fail)
            go_wp2
            refine ⟨?_, by first | (simp [intOf]; done) | (simp [intOf]; omega)⟩
            first
              | exact ⟨j + 1, _, by omega, by go_num, HT2, by first | rfl | trivial⟩
              | ((repeat apply Exists.intro); exact ⟨⟨j + 1, _, by omega, by go_num, HT2, by first | rfl | trivial⟩, rfl⟩)
          · have hd : (((l[j] : Nat) : Int) != ((k[j] : Nat) : Int)) = true := by simp; omega
            have hne : decide (l = k) = false := by
              simp only [decide_eq_false_iff_not]
              intro h; subst h; exact he rfl
            have HNE := hide (HRR.out.trans hne)
            clear he HT hne
            go_wp2
            go_quiet (fail)
            go_wp2
            go_ret
            exact ⟨ret_bool HNE.out.symm, _, by rw [World.drewN_drewN]⟩
        · obtain rfl : j = l.length := by omega
          have he : l = k := by
            have h1 := HT.out
            rw [List.take_of_length_le (by omega), List.take_of_length_le (by have := HL.out; omega)] at h1
            exact h1
          have hne : decide (l = k) = true := by simp [he]
          have HNE := hide (HRR.out.trans hne)
          clear HT he hne hcell1 hcell2
          go_wp2
          go_ret
          exact ⟨ret_bool HNE.out.symm, n, rfl⟩
    · have h1 : l = [] := List.eq_nil_of_length_eq_zero (by omega)
      have h2 : k = [] := List.eq_nil_of_length_eq_zero (by omega)
      subst h1 h2
      clear h g hl hk hlen hp e1
      go_enter Try.func12, Try.ntmps12
      go_wp2
      refine wp_loop_rounds 2 ?_
      rw [rounds_succ]; go_wp2
      go_ret
      exact ⟨rfl, 0, rfl⟩
  · have e1 : ((l.length : Int) != (k.length : Int)) = true := by simp; omega
    have e2 : decide (l = k) = false := by simp; intro h; rw [h] at hlen; exact hlen rfl
    rw [e2]
    clear e2 hlen h g
    go_enter Try.func12, Try.ntmps12
    go_wp2
    go_ret
    exact ⟨rfl, 0, rfl⟩
def properB (l : List UInt8) : Bool := decide (∃ h : 0 < l.length, contB l[0] = false ∧ firstN l = l.length)
theorem proper_nil : properB [] = false := by simp [properB]
theorem proper_cont (l : List UInt8) (h : 0 < l.length) (hc : contB l[0] = true) : properB l = false := by simp [properB, hc]
theorem proper_yes (l : List UInt8) (h : 0 < l.length) (hc : contB l[0] = false) (hf : firstN l = l.length) : properB l = true := by simp only [properB, decide_eq_true_iff]; exact ⟨h, hc, hf⟩
theorem proper_no (l : List UInt8) (hf : ¬ firstN l = l.length) : properB l = false := by simp [properB, hf]
theorem splitL_ne (l : List UInt8) (h : 0 < l.length) : splitL l ≠ [] := by rw [splitL_eq l h]; simp
theorem split_one (l : List UInt8) (h : 0 < l.length) : (splitL l).length = 1 ↔ firstN l = l.length := by
  rw [splitL_eq l h, List.length_cons]
  have hle := firstN_le l
  constructor
  · intro e
    by_cases h2 : firstN l = l.length
    · exact h2
    · have := splitL_ne (l.drop (firstN l)) (by rw [List.length_drop]; omega)
      exact absurd (List.eq_nil_of_length_eq_zero (by omega)) this
  · intro e
    rw [List.drop_of_length_le (by omega)]; rfl
set_option maxRecDepth 100000 in
set_option maxHeartbeats 1000000 in
theorem properq_any (z : ByteArray) (r : Bool) (w : World) (hs : z.size ≤ 100000) (hr : properB z.data.toList = r) :
    Calls Try.prog 16 #[.string z] w fun e w' => e = .returned (.bool r) ∧ Below w.heap.size w w' := by
  by_cases h0 : 0 < z.size
  · have hne := ne_bytes z h0
    have hl0 : 0 < z.data.toList.length := by rw [len_data]; exact h0
    have hz0 : z.data.toList[0] = z[0] := rfl
    cases hc : contB z[0]
    · obtain ⟨X, hX⟩ : ∃ X, z.extract 0 (firstN z.data.toList) = X := ⟨_, rfl⟩
      have hXs : X.size = firstN z.data.toList := by
        have h1 := firstN_le z.data.toList
        rw [len_data] at h1
        rw [← hX, ByteArray.size_extract]; omega
      have HX := hide hX
      have HC := hide hc
      by_cases he : firstN z.data.toList = z.data.toList.length
      · have hrt : r = true := by rw [← hr]; exact proper_yes _ hl0 (by rw [hz0]; exact hc) he
        have hxe : ((X.size : Int) == (z.size : Int)) = true := by rw [len_data] at he; simp; omega
        subst hrt
        clear hr hX hc he hXs hz0
        go_enter Try.func16, Try.ntmps16
        go_wp2_with (first | (go_at_call 29; refine (contc_any z[0] _ false _ rfl HC.out).mono ?_; rintro e w1 ⟨rfl, rfl⟩) | (go_at_call 15; refine (firste_any z X _ (by omega) HX.out).mono ?_; rintro e w1 ⟨rfl, rfl⟩))
        go_ret
        exact ⟨rfl, bl_refl _⟩
      · have hrf : r = false := by rw [← hr]; exact proper_no _ he
        have hxe : ((X.size : Int) == (z.size : Int)) = false := by rw [len_data] at he; simp; omega
        subst hrf
        clear hr hX hc he hXs hz0
        go_enter Try.func16, Try.ntmps16
        go_wp2_with (first | (go_at_call 29; refine (contc_any z[0] _ false _ rfl HC.out).mono ?_; rintro e w1 ⟨rfl, rfl⟩) | (go_at_call 15; refine (firste_any z X _ (by omega) HX.out).mono ?_; rintro e w1 ⟨rfl, rfl⟩))
        go_ret
        exact ⟨rfl, bl_refl _⟩
    · have hrf : r = false := by rw [← hr]; exact proper_cont _ hl0 (by rw [hz0]; exact hc)
      have HC := hide hc
      subst hrf
      clear hr hc hz0
      go_enter Try.func16, Try.ntmps16
      go_wp2_with (first | (go_at_call 29; refine (contc_any z[0] _ true _ rfl HC.out).mono ?_; rintro e w1 ⟨rfl, rfl⟩))
      go_ret
      exact ⟨rfl, bl_refl _⟩
  · have hne := e_bytes z (by omega)
    have hl : z.data.toList = [] := List.eq_nil_of_length_eq_zero (by rw [len_data]; omega)
    have hrf : r = false := by rw [← hr, hl]; exact proper_nil
    subst hrf
    clear hr hl
    go_enter Try.func16, Try.ntmps16
    go_wp2
    go_ret
    exact ⟨rfl, bl_refl _⟩
set_option maxRecDepth 100000 in
set_option maxHeartbeats 1000000 in
theorem rproper_any (z : ByteArray) (r : Bool) (w : World) (hs : z.size ≤ 100000) (hr : properB z.data.toList = r) :
    Calls Try.prog 17 #[.string z] w fun e w' => e = .returned (.bool r) ∧ Below w.heap.size w w' := by
  by_cases h0 : 0 < z.size
  · have hl0 : 0 < z.data.toList.length := by rw [len_data]; exact h0
    have hz0 : z.data.toList[0] = z[0] := rfl
    have hi0 : (0 : Int) < (z.size : Int) := by omega
    cases hc : contB z[0]
    · have HC := hide hc
      have hon := split_one _ hl0
      have hrr : r = decide (firstN z.data.toList = z.data.toList.length) := by
        rw [← hr]
        by_cases he : firstN z.data.toList = z.data.toList.length
        · rw [proper_yes _ hl0 (by rw [hz0]; exact hc) he]; simp [he]
        · rw [proper_no _ he]; symm; rw [decide_eq_false_iff_not]; exact he
      have HRR := hide hrr
      have HON := hide hon
      clear hr hc hz0 hrr hon
      go_enter Try.func17, Try.ntmps17
      go_wp2_with fail
      refine (leade_any z[0] _ false _ rfl HC.out).mono ?_
      rintro e w1 ⟨rfl, rfl⟩
      go_wp2_with fail
      refine (rsplit_any z _ hs).mono ?_
      rintro e w2 ⟨v, zs, rfl, hb2, hv, HZ⟩
      have hzl : zs.length = (splitL z.data.toList).length := by rw [← HZ.out, List.length_map]
      obtain ⟨aV, cV, rfl⟩ := own_slice hv
      have hrz : ((zs.length : Int) == 1) = r := by
        rw [HRR.out, Bool.eq_iff_iff]
        rw [decide_eq_true_iff, ← HON.out, ← hzl]
        simp; omega
      have HRZ := hide hrz
      clear hv HZ hzl hrz
      go_wp2
      go_ret
      exact ⟨ret_bool HRZ.out, hb2⟩
    · have hrf : r = false := by rw [← hr]; exact proper_cont _ hl0 (by rw [hz0]; exact hc)
      have HC := hide hc
      subst hrf
      clear hr hc hz0
      go_enter Try.func17, Try.ntmps17
      go_wp2_with (first | (go_at_call 28; refine (leade_any z[0] _ true _ rfl HC.out).mono ?_; rintro e w1 ⟨rfl, rfl⟩))
      go_ret
      exact ⟨rfl, bl_refl _⟩
  · have hl : z.data.toList = [] := List.eq_nil_of_length_eq_zero (by rw [len_data]; omega)
    have hrf : r = false := by rw [← hr, hl]; exact proper_nil
    have hi0 : decide ((0 : Int) < (z.size : Int)) = false := decide_eq_false_iff_not.2 (by omega)
    have hi1 : (z.size : Int) ≤ 0 := by omega
    subst hrf
    clear hr hl
    go_enter Try.func17, Try.ntmps17
    go_wp2
    go_ret
    exact ⟨rfl, bl_refl _⟩
def wdB (l : List UInt8) : Bool := match l with
  | [c] => decide (48 ≤ c.toNat ∧ c.toNat ≤ 57 ∨ 65 ≤ c.toNat ∧ c.toNat ≤ 90 ∨ 97 ≤ c.toNat ∧ c.toNat ≤ 122 ∨ c.toNat = 95)
  | _ => false
set_option maxRecDepth 100000 in
set_option maxHeartbeats 2000000 in
theorem word_any (z : ByteArray) (r : Bool) (w : World) (hr : wdB z.data.toList = r) :
    Calls Try.prog 20 #[.string z] w fun e w' => e = .returned (.bool r) ∧ Below w.heap.size w w' := by
  by_cases h1 : z.size = 1
  · have hi : ((z.size : Int) == 1) = true := by simp; omega
    have h0 : 0 < z.size := by omega
    have hl : z.data.toList = [z[0]] := by
      have h2 : z.data.toList.length = 1 := by rw [len_data]; exact h1
      obtain ⟨c, hc⟩ := List.length_eq_one_iff.1 h2
      have h3 : z[0] = z.data.toList[0]'(by omega) := rfl
      rw [h3]
      simp only [hc, List.getElem_cons_zero]
    rw [hl] at hr
    have HW : Hid (r = decide (48 ≤ z[0].toNat ∧ z[0].toNat ≤ 57 ∨ 65 ≤ z[0].toNat ∧ z[0].toNat ≤ 90 ∨ 97 ≤ z[0].toNat ∧ z[0].toNat ≤ 122 ∨ z[0].toNat = 95)) := hide hr.symm
    have hc : (z[0].toNat : Int) < 256 := by have := z[0].toNat_lt; omega
    clear hr hl h1
    generalize hg : z[0].toNat = n at *
    have HG := hide hg
    clear hg
    go_enter Try.func20, Try.ntmps20
    go_wp2
    all_goals
      go_ret
      have hg := HG.out
      exact ⟨ret_bool (by rw [HW.out, Bool.eq_iff_iff]; first | (simp; done) | (simp; omega) | (simp at *; omega)), bl_refl _⟩
  · have hi : ((z.size : Int) == 1) = false := by simp; omega
    have hrf : r = false := by
      rw [← hr]
      unfold wdB
      split
      · rename_i c hc
        have := len_data z
        rw [hc] at this
        simp at this; omega
      · rfl
    subst hrf
    clear hr h1
    go_enter Try.func20, Try.ntmps20
    go_wp2
    go_ret
    exact ⟨rfl, bl_refl _⟩
set_option maxRecDepth 100000 in
set_option maxHeartbeats 2000000 in
theorem rword_any (z : ByteArray) (r : Bool) (w : World) (hr : wdB z.data.toList = r) :
    Calls Try.prog 21 #[.string z] w fun e w' => e = .returned (.bool r) ∧ Below w.heap.size w w' := by
  by_cases h1 : z.size = 1
  · have hi : ((z.size : Int) == 1) = true := by simp; omega
    have h0 : 0 < z.size := by omega
    have hl : z.data.toList = [z[0]] := by
      have h2 : z.data.toList.length = 1 := by rw [len_data]; exact h1
      obtain ⟨c, hc⟩ := List.length_eq_one_iff.1 h2
      have h3 : z[0] = z.data.toList[0]'(by omega) := rfl
      rw [h3]
      simp only [hc, List.getElem_cons_zero]
    rw [hl] at hr
    have HW : Hid (r = decide (48 ≤ z[0].toNat ∧ z[0].toNat ≤ 57 ∨ 65 ≤ z[0].toNat ∧ z[0].toNat ≤ 90 ∨ 97 ≤ z[0].toNat ∧ z[0].toNat ≤ 122 ∨ z[0].toNat = 95)) := hide hr.symm
    have hc : (z[0].toNat : Int) < 256 := by have := z[0].toNat_lt; omega
    clear hr hl h1
    generalize hg : z[0].toNat = n at *
    have HG := hide hg
    clear hg
    go_enter Try.func21, Try.ntmps21
    go_wp2
    all_goals
      go_ret
      have hg := HG.out
      exact ⟨ret_bool (by rw [HW.out, Bool.eq_iff_iff]; first | (simp; done) | (simp; omega) | (simp at *; omega)), bl_refl _⟩
  · have hi : ((z.size : Int) == 1) = false := by simp; omega
    have hrf : r = false := by
      rw [← hr]
      unfold wdB
      split
      · rename_i c hc
        have := len_data z
        rw [hc] at this
        simp at this; omega
      · rfl
    subst hrf
    clear hr h1
    go_enter Try.func21, Try.ntmps21
    go_wp2
    go_ret
    exact ⟨rfl, bl_refl _⟩
end Go.Proofs.Ytodnnhhlpinpbaa
