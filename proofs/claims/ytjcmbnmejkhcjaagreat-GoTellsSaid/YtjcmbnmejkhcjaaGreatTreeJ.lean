/- Trees of pieces of their own: one made of a text. Condition: a text that is not too long. -/
import Derived.Test.YtjcmbnmejkhcjaaGreatTreeI
namespace Go.Proofs.YtjcmbnmejkhcjaaGreat
open Go.ChangeShapes Go.WideShapes Go.ChangeAt Go.RowKit
attribute [local go_sem ↓] Go.wp_at_zero Go.wp_at_succ
set_option maxRecDepth 100000
def strSize : Value → Nat
  | .string b => b.size
  | _ => 0
def BuildRel (w0 : World) (S0 R : List Nat) (d g : Nat) (ts : List T) (S : ByteArray) (w : World) (s root : Value) (wr : World) : Prop :=
  ∃ (sv : ByteArray) (t : T) (m : Nat), s = .string sv ∧ root = .pointer t.addr ∧ sv.size + m = S.size ∧ Hid (sv.data.toList = S.data.toList.drop m) ∧ Hid (t.text = S.data.toList.take m) ∧ Hid (m < S.size → ∀ q ∈ t.ps, q.2.1.size = 64) ∧ Hid (Live w0 S0 R d g wr (t :: ts)) ∧ Hid (Keeps R d w wr)
set_option maxHeartbeats 8000000 in
theorem build_live {w0 : World} {S0 R : List Nat} {d g : Nat} {w : World} {ts : List T} (h : Live w0 S0 R d g w ts) (r : Nat) (hrR : r ∈ R) (hrd : r ≠ d) (hr : w.cell? ⟨r, 0, none⟩ = some (.pointer (some ⟨d, 0, none⟩))) (S : ByteArray) (hS : S.size ≤ 500000) :
    Calls Tryz.prog 22 #[.pointer (some ⟨r, 0, none⟩), .string S] w (GluePost w0 S0 R d g ts S.data.toList w) := by
  have hst : BuildRel w0 S0 R d g ts S w (.string S) (.pointer none) w := ⟨S, .nil, 0, rfl, rfl, by omega, hide (by simp), hide (by simp [T.text]), hide (fun _ q hq => by simp [T.ps] at hq), hide (live_nil h), hide (keeps_refl _ _ _)⟩
  have HST := hide hst
  clear h hst
  go_enter Tryz.func22, Tryz.ntmps22
  go_wp2
  go_loopw [1, 5] (fun s root wr => BuildRel w0 S0 R d g ts S w s root wr) (fun s _ _ => strSize s)
  case atStart => exact HST.out
  case round =>
    obtain ⟨sv, t, m, rfl, rfl, hm, HSV, HT, HP, HL, HK⟩ := hrel
    by_cases hlt : m < S.size
    · have h0 : decide ((0 : Int) < (sv.size : Int)) = true := by simp; omega
      have h0' : decide (0 < sv.size) = true := by simp; omega
      obtain ⟨kk, hkk⟩ : ∃ kk : Nat, min sv.size 64 = kk := ⟨_, rfl⟩
      have hk1 : 1 ≤ kk ∧ kk ≤ 64 ∧ kk ≤ sv.size ∧ (kk < sv.size → kk = 64) := by omega
      obtain ⟨hk1, hk2, hk3, hk4⟩ := hk1
      have hmin : min (sv.size : Int) 64 = (kk : Int) := by omega
      have i1 : (0 : Int) ≤ (kk : Int) := by omega
      have i2 : (kk : Int) ≤ (sv.size : Int) := by omega
      have z1 : (sv.extract 0 kk).size = kk := by rw [ByteArray.size_extract]; omega
      have z2 : (sv.extract kk sv.size).size = sv.size - kk := by rw [ByteArray.size_extract]; omega
      have hr2 := keep_cell HK.out hrR hrd hr
      have HLF := hide (leaf_live HL.out r hrd hr2 (sv.extract 0 kk) (by omega) (by omega))
      have hlt2 : t.text.length + kk ≤ 1000000 := by
        rw [HT.out, List.length_take, len_data]; omega
      have htk : S.data.toList.take m ++ (sv.extract 0 kk).data.toList = S.data.toList.take (m + kk) := by
        rw [ext_take, HSV.out, List.take_add]
      have hdk : (sv.extract kk sv.size).data.toList = S.data.toList.drop (m + kk) := by
        rw [ext_drop, HSV.out, List.drop_drop]
      have HTK := hide htk
      have HDK := hide hdk
      have HZ1 := hide z1
      have HZ2 := hide z2
      have HKK := hide hkk
      clear hkk htk hdk z1 z2 HST
      go_wp2_with fail
      refine HLF.out.mono ?_
      rintro e w3 ⟨n, p, rfl, hpp, hl3, hk3'⟩
      have HM := hide (merge_live (hl3.perm (.swap _ _ _)) (by rw [leaf_text, len_data, HZ1.out]; omega) (fun x y hx hy => by
        have h1 := HP.out hlt x (List.mem_of_getLast? hx)
        rw [leaf_ps] at hy
        simp at hy
        subst hy
        have h2 := HZ1.out
        simp only
        omega))
      rw [show (T.node .nil n (sv.extract 0 kk) p .nil).addr = some ⟨n, 0, none⟩ from rfl] at HM
      have HK3 := hide (HK.out.trans hk3')
      clear hl3 hk3' HLF
      go_wp2_with fail
      refine HM.out.mono ?_
      rintro e w4 ⟨t2, rfl, hm2, hl4, hk4'⟩
      have hfin : BuildRel w0 S0 R d g ts S w (.string (sv.extract kk sv.size)) (.pointer t2.addr) w4 :=
        ⟨_, t2, m + kk, rfl, rfl, by rw [HZ2.out]; omega, HDK, hide (by rw [mrg_text hm2, HT.out, leaf_text]; exact HTK.out), hide (fun h5 q hq => by
          rw [hm2.ps, leaf_ps] at hq
          rcases List.mem_append.1 hq with hq | hq
          · exact HP.out hlt q hq
          · rw [List.mem_singleton] at hq
            subst hq
            have h2 := HZ1.out
            have h3 := hk4 (by omega)
            simp only
            omega), hide hl4, hide (HK3.out.trans hk4')⟩
      have HFIN := hide hfin
      have hms : strSize (.string (sv.extract kk sv.size)) < strSize (.string sv) := by
        show (sv.extract kk sv.size).size < sv.size
        rw [HZ2.out]; omega
      have HMS := hide hms
      clear hfin hms hm2 hl4 hk4' HM
      go_wp2
      exact ⟨HFIN.out, HMS.out⟩
    · have hz : sv.size = 0 := by omega
      have h0 : decide ((0 : Int) < (sv.size : Int)) = false := decide_eq_false (by omega)
      have h0' : decide (0 < sv.size) = false := decide_eq_false (by omega)
      have HF : Hid (GluePost w0 S0 R d g ts S.data.toList w (.returned (.pointer t.addr)) wr) := hide ⟨t, rfl, by rw [HT.out, List.take_of_length_le (by rw [len_data]; omega)], HL.out, HK.out⟩
      clear hz HST
      go_wp2
      go_ret
      exact HF.out
end Go.Proofs.YtjcmbnmejkhcjaaGreat
