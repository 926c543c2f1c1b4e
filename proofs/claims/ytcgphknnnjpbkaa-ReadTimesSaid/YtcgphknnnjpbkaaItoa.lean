/- What the library's table of powers gives: every number is told (strconv.Itoa); the reference's digits. Condition: the table as the program's text lays it; numbers below 1000000. -/
import Derived.Test.YtcgphknnnjpbkaaChecked
import Derived.Test.YtcgphknnnjpbkaaOwn
import Derived.Test.YtcgphknnnjpbkaaLow
import Derived.Test.YtcgphknnnjpbkaaLater
import Derived.Test.YtcgphknnnjpbkaaRows
import Derived.Test.YtcgphknnnjpbkaaLay
import Derived.Lib.LaidTab
import Derived.Lib.AppendIntMem
import Derived.MakeChecks
import Derived.LaidHandle
import Derived.Deep.DrawnRows
namespace Go.Proofs.Ytcgphknnnjpbkaa
open Go.ChangeShapes Go.WideShapes Go.ChangeAt Go.RowKit
open Go.Lib (decDigits)
attribute [local go_sem ↓] Go.wp_at_zero Go.wp_at_succ
set_option maxRecDepth 100000
set_option linter.unusedVariables false
def itoaS (i : Nat) : ByteArray := ⟨(Go.Lib.decDigits i).toArray⟩
/-- What of the digits stands ahead of the last one. -/
def preD (u : Nat) : List UInt8 := if u < 10 then [] else decDigits (u / 10)
theorem dec_pre (u : Nat) : decDigits u = preD u ++ [UInt8.ofNat (48 + u % 10)] := by
  unfold preD
  rw [decDigits]
  split
  · rw [show u % 10 = u by omega]; rfl
  · rfl
def valD (l : List UInt8) : Nat := l.foldl (fun a c => a * 10 + (c.toNat - 48)) 0
theorem val_snoc (l : List UInt8) (c : UInt8) : valD (l ++ [c]) = valD l * 10 + (c.toNat - 48) := by unfold valD; rw [List.foldl_append]; rfl
theorem d_nat (k : Nat) (h : k < 10) : (UInt8.ofNat (48 + k)).toNat = 48 + k := by rw [UInt8.toNat_ofNat']; omega
theorem val_dec (u : Nat) : valD (decDigits u) = u := by
  induction u using Nat.strongRecOn with
  | _ u ih =>
    rw [dec_pre, val_snoc, d_nat _ (by omega)]
    unfold preD
    split
    · show 0 * 10 + _ = _; omega
    · rw [ih (u / 10) (by omega)]; omega
theorem dec_chars (u : Nat) : ∀ c ∈ decDigits u, 48 ≤ c.toNat ∧ c.toNat ≤ 57 := by
  induction u using Nat.strongRecOn with
  | _ u ih =>
    intro c hc
    rw [dec_pre] at hc
    rcases List.mem_append.1 hc with hc | hc
    · unfold preD at hc
      split at hc
      · cases hc
      · exact ih (u / 10) (by omega) c hc
    · have : c = UInt8.ofNat (48 + u % 10) := by simpa using hc
      rw [this, d_nat _ (by omega)]; omega
theorem dec_len (u : Nat) : (decDigits u).length ≤ u + 1 := by
  induction u using Nat.strongRecOn with
  | _ u ih =>
    rw [dec_pre, List.length_append]
    unfold preD
    split
    · simp
    · have := ih (u / 10) (by omega)
      simp; omega
theorem dec_len2 (u : Nat) (h : u < 1000000) : (decDigits u).length ≤ 6 := by
  have step : ∀ (k u : Nat), u < 10 ^ (k + 1) → (decDigits u).length ≤ k + 1 := by
    intro k
    induction k with
    | zero => intro u hu; rw [dec_pre]; unfold preD; rw [if_pos (by omega)]; simp
    | succ k ih =>
      intro u hu
      rw [dec_pre, List.length_append]
      unfold preD
      split
      · simp
      · have := ih (u / 10) (by rw [Nat.pow_succ] at hu; omega)
        simp; omega
  exact step 5 u (by omega)
theorem dec_inj {i j : Nat} (h : decDigits i = decDigits j) : i = j := by have := congrArg valD h; rwa [val_dec, val_dec] at this
theorem itoa_size (u : Nat) (h : u < 1000000) : (itoaS u).size ≤ 6 := dec_len2 u h
theorem itoa_inj {i j : Nat} (h : itoaS i = itoaS j) : i = j := by
  have := congrArg (fun x : ByteArray => x.data.toList) h
  simp only [itoaS] at this
  exact dec_inj (by simpa using this)
set_option maxHeartbeats 4000000 in
theorem digits_any (n0 : Nat) (h : n0 < 1000000) (w : World) : Calls Try.prog 26 #[.int .i64 n0] w fun e w' => e = .returned (.string (itoaS n0)) ∧ Below w.heap.size w w' := by
  have hstep : ∀ (W : World) (u : Nat), (convert 38 9 (.slice (some ⟨W.heap.size, 0, none⟩) 1 1)).run Try.prog (W.alloc (.cells #[.int .u8 (48 + ((u % 10 : Nat) : Int))] 5)) = .ok (.string ⟨#[UInt8.ofNat (48 + u % 10)]⟩) (W.alloc (.cells #[.int .u8 (48 + ((u % 10 : Nat) : Int))] 5)) := by
    intro W u
    have hd := d_nat (u % 10) (by omega)
    exact Go.run_convert_bytes_back (P := Try.prog) (W.alloc (.cells #[.int .u8 (48 + ((u % 10 : Nat) : Int))] 5)) 38 9 5 ⟨W.heap.size, 0, none⟩ 1 [UInt8.ofNat (48 + u % 10)] Try.underlying38 Try.underlying5 Try.underlying9 (fun j hj => by
      obtain rfl : j = 0 := by simp at hj; omega
      simp only [Addr.add, List.getElem_cons_zero, hd]
      go_simp)
  have hnum : ∀ u : Nat, u < 1000000 → (u : Int).tmod 10 = ((u % 10 : Nat) : Int) ∧ (u : Int).tdiv 10 = ((u / 10 : Nat) : Int) ∧ IntKind.i64.wrap ((u % 10 : Nat) : Int) = ((u % 10 : Nat) : Int) ∧ IntKind.i64.wrap (48 + ((u % 10 : Nat) : Int)) = 48 + ((u % 10 : Nat) : Int) ∧ IntKind.u8.wrap (48 + ((u % 10 : Nat) : Int)) = 48 + ((u % 10 : Nat) : Int) ∧ IntKind.i64.wrap ((u / 10 : Nat) : Int) = ((u / 10 : Nat) : Int) := by
    intro u hu
    refine ⟨by rw [Int.tmod_eq_emod_of_nonneg (by omega)]; omega, by rw [Int.tdiv_eq_ediv_of_nonneg (by omega)]; omega, by rw [IntKind.wrap_i64]; omega, by rw [IntKind.wrap_i64]; omega, by rw [IntKind.wrap_u8]; omega, by rw [IntKind.wrap_i64]; omega⟩
  have HST := hide hstep
  have HNM := hide hnum
  have hl6 := dec_len2 n0 h
  have H6 := hide hl6
  have hd1 : decDigits n0 = preD n0 ++ (⟨#[UInt8.ofNat (48 + n0 % 10)]⟩ : ByteArray).data.toList := dec_pre n0
  have HD1 := hide hd1
  obtain ⟨n1, n2, n3, n4, n5, n6⟩ := hnum n0 h
  have hs0 := hstep w n0
  clear hstep hnum hl6 hd1
  obtain ⟨d, hd⟩ : ∃ d, n0 % 10 = d := ⟨_, rfl⟩
  rw [hd] at n1 n3 n4 n5 hs0 HD1
  have hd10 : d < 10 := by omega
  obtain ⟨c, hc⟩ : ∃ c, UInt8.ofNat (48 + d) = c := ⟨_, rfl⟩
  rw [hc] at hs0 HD1
  clear hd n2 n6 hc
  go_enter Try.func26, Try.ntmps26
  go_wp2
  clear n1 n3 n4 n5 hs0 hd10
  go_loopw [0, 3] (fun a b wr => ∃ (u : Nat) (s : ByteArray), a = .int .i64 u ∧ b = .string s ∧ u ≤ n0 ∧ Hid (decDigits n0 = preD u ++ s.data.toList) ∧ Hid (Below w.heap.size w wr)) (fun a _ _ => (intOf a).toNat)
  case atStart => exact ⟨n0, ⟨#[c]⟩, rfl, rfl, Nat.le_refl _, HD1, hide (bl_alloc (bl_refl w) _)⟩
  case round =>
    clear HD1
    obtain ⟨u, s, rfl, rfl, hu, HD, HB⟩ := hrel
    by_cases h10 : 10 ≤ u
    · have gl : decide ((10 : Int) ≤ (u : Int)) = true := decide_eq_true (by omega)
      have gl' : decide (10 ≤ u) = true := decide_eq_true h10
      obtain ⟨n1, n2, n3, n4, n5, n6⟩ := HNM.out u (by omega)
      obtain ⟨m1, m2, m3, m4, m5, m6⟩ := HNM.out (u / 10) (by omega)
      have hs0 := HST.out wr (u / 10)
      have hsz : s.size ≤ 6 := by
        have h6 := H6.out
        rw [HD.out, List.length_append] at h6
        show s.data.toList.length ≤ 6
        omega
      have HD2 := hide (show decDigits n0 = preD (u / 10) ++ ((⟨#[UInt8.ofNat (48 + u / 10 % 10)]⟩ : ByteArray) ++ s).data.toList by
        rw [HD.out, ByteArray.toList_data_append]
        show preD u ++ _ = preD (u / 10) ++ ([UInt8.ofNat (48 + u / 10 % 10)] ++ _)
        rw [← List.append_assoc, ← dec_pre]
        conv => lhs; unfold preD
        rw [if_neg (by omega)])
      have hlt : u / 10 < u := by omega
      have HB2 := hide (bl_alloc HB.out (.cells #[.int .u8 (48 + ((u / 10 % 10 : Nat) : Int))] 5))
      have hz : ((⟨#[UInt8.ofNat (48 + u / 10 % 10)]⟩ : ByteArray)).size = 1 := rfl
      clear HD m2 m6 n1 n3 n4 n5
      obtain ⟨v, hv⟩ : ∃ v, u / 10 = v := ⟨_, rfl⟩
      rw [hv] at n2 n6 m1 m3 m4 m5 hs0 HD2 HB2 hlt hz
      obtain ⟨d, hd⟩ : ∃ d, v % 10 = d := ⟨_, rfl⟩
      rw [hd] at m1 m3 m4 m5 hs0 HD2 HB2 hz
      have hd10 : d < 10 := by omega
      have hvn : v ≤ n0 := by omega
      obtain ⟨c, hc⟩ : ∃ c, UInt8.ofNat (48 + d) = c := ⟨_, rfl⟩
      rw [hc] at hs0 HD2 hz
      clear hd hv hc
      go_wp2
      refine ⟨?_, by first | (simp [intOf]; done) | (simp [intOf]; omega)⟩
      first
        | exact ⟨v, ⟨#[c]⟩ ++ s, by go_num, rfl, hvn, HD2, HB2⟩
        | ((repeat apply Exists.intro); exact ⟨⟨v, ⟨#[c]⟩ ++ s, by go_num, rfl, hvn, HD2, HB2⟩, rfl⟩)
    · have gl : decide ((10 : Int) ≤ (u : Int)) = false := decide_eq_false (by omega)
      have gl' : decide (10 ≤ u) = false := decide_eq_false h10
      have hfin : itoaS n0 = s := by
        have h1 := HD.out
        unfold preD at h1
        rw [if_pos (by omega), List.nil_append] at h1
        unfold itoaS
        rw [h1]
      have HF := hide hfin
      clear hfin HD HNM HST H6
      go_wp2
      go_ret
      exact ⟨by rw [HF.out]; rfl, HB.out⟩
end Go.Proofs.Ytcgphknnnjpbkaa
