/- Contracts: are two trees the same, part by part. No condition. -/
import Derived.Test.YtcgphknnnjpbkaaRxM
namespace Go.Proofs.Ytcgphknnnjpbkaa
open Go.ChangeShapes Go.WideShapes Go.ChangeAt Go.RowKit
open SetM
attribute [local go_sem ↓] Go.wp_at_zero Go.wp_at_succ
set_option maxRecDepth 100000
set_option linter.unusedVariables false
mutual
  def sameM : Rt → Rt → Bool
    | .mk k ch nt _ rows mi ma lz _ l, .mk k' ch' nt' _ rows' mi' ma' lz' _ l' => decide (k = k') && decide (ch = ch') && decide (nt = nt') && decide (mi = mi') && decide (ma = ma') && decide (lz = lz') && decide (rows = rows') && sameL l l'
  def sameL : List Rt → List Rt → Bool
    | [], [] => true
    | a :: l, b :: m => sameM a b && sameL l m
    | [], _ :: _ => false
    | _ :: _, [] => false
end
theorem sameM_eq (a b : Rt) : sameM a b = (decide (a.k = b.k) && decide (a.ch = b.ch) && decide (a.nt = b.nt) && decide (a.mi = b.mi) && decide (a.ma = b.ma) && decide (a.lz = b.lz) && decide (a.rows = b.rows) && sameL a.kids b.kids) := by
  cases a; cases b; rw [sameM]; rfl
mutual
  theorem sameM_refl : ∀ t, sameM t t = true
    | .mk k ch nt _ rows mi ma lz _ l => by rw [sameM, sameL_refl l]; simp
  theorem sameL_refl : ∀ l, sameL l l = true
    | [] => by rw [sameL]
    | t :: l => by rw [sameL, sameM_refl t, sameL_refl l]; rfl
end
mutual
  theorem sameM_symm : ∀ a b, sameM a b = sameM b a
    | .mk k ch nt _ rows mi ma lz _ l, .mk k' ch' nt' _ rows' mi' ma' lz' _ l' => by
      rw [sameM, sameM, sameL_symm l l']
      simp only [eq_comm]
  theorem sameL_symm : ∀ l m, sameL l m = sameL m l
    | [], [] => rfl
    | a :: l, b :: m => by rw [sameL, sameL, sameM_symm a b, sameL_symm l m]
    | [], _ :: _ => by rw [sameL, sameL]
    | _ :: _, [] => by rw [sameL, sameL]
end
theorem sameL_len : ∀ l m, sameL l m = true → l.length = m.length
  | [], [], _ => rfl
  | a :: l, b :: m, h => by
    rw [sameL] at h
    simp only [Bool.and_eq_true] at h
    simp [sameL_len l m h.2]
  | [], _ :: _, h => by rw [sameL] at h; cases h
  | _ :: _, [], h => by rw [sameL] at h; cases h
theorem sameL_at : ∀ (l m : List Rt) (i : Nat) (h : i < l.length) (g : i < m.length), sameL l m = true → sameM l[i] m[i] = true
  | a :: l, b :: m, 0, _, _, e => by
    rw [sameL] at e
    simp only [Bool.and_eq_true] at e
    exact e.1
  | a :: l, b :: m, i + 1, h, g, e => by
    rw [sameL] at e
    simp only [Bool.and_eq_true] at e
    simp only [List.getElem_cons_succ]
    exact sameL_at l m i _ _ e.2
theorem sameL_app : ∀ (l m l2 m2 : List Rt), l.length = m.length → sameL (l ++ l2) (m ++ m2) = (sameL l m && sameL l2 m2)
  | [], [], _, _, _ => by simp [sameL]
  | a :: l, b :: m, l2, m2, h => by
    simp only [List.cons_append, sameL]
    rw [sameL_app l m l2 m2 (by simpa using h), Bool.and_assoc]
  | [], _ :: _, _, _, h => by simp at h
  | _ :: _, [], _, _, h => by simp at h
theorem sameL_succ (l m : List Rt) (k : Nat) (h : k < l.length) (g : k < m.length) (e : sameL (l.take k) (m.take k) = true) (e2 : sameM l[k] m[k] = true) : sameL (l.take (k + 1)) (m.take (k + 1)) = true := by
  rw [List.take_succ_eq_append_getElem h, List.take_succ_eq_append_getElem g, sameL_app _ _ _ _ (by simp; omega), e]
  simp [sameL, e2]
theorem tl_iff (a b : ByteArray) : a.toList = b.toList ↔ a = b := by
  rw [Go.ByteArray.toList_eq, Go.ByteArray.toList_eq]; exact ⟨fun h => by cases a; cases b; simp at h; rw [h], fun h => by rw [h]⟩
theorem neq_rw (a b : Rw) (w : World) : (binOp .neq 47 (.agg #[.string a.1, .string a.2]) (.agg #[.string b.1, .string b.2])).run Try.prog w = .ok (.bool (!decide (a = b))) w := by
  obtain ⟨a1, a2⟩ := a
  obtain ⟨b1, b2⟩ := b
  show (binOp .neq 47 (.agg #[.string a1, .string a2]) (.agg #[.string b1, .string b2])).run Try.prog w = .ok (.bool (!decide ((a1, a2) = (b1, b2)))) w
  go_simp
  by_cases h1 : a1 = b1 <;> by_cases h2 : a2 = b2 <;> simp [h1, h2, tl_iff]
theorem eqgn_rw (x y : Operand) (a b : Rw) (w : World) : (eqGuard .neq 47 x y (.agg #[.string a.1, .string a.2]) (.agg #[.string b.1, .string b.2])).run Try.prog w = .ok () w :=
  run_eqGuard_agg _ _ _ _ _ _ _ (by kernel_rfl)
theorem take_eq_succ {α : Type} (l m : List α) (k : Nat) (h : k < l.length) (g : k < m.length) (e : l.take k = m.take k) (e2 : l[k] = m[k]) : l.take (k + 1) = m.take (k + 1) := by
  rw [List.take_succ_eq_append_getElem h, List.take_succ_eq_append_getElem g, e, e2]
attribute [local go_sem] eqgn_rw
attribute [local go_sem ↓] neq_rw
set_option maxHeartbeats 1000000 in
theorem eqrows_any (v u : Value) (l k : List Rw) (w : World) (h : RwAt w v l) (g : RwAt w u k) :
    Calls Try.prog 50 #[v, u] w fun e w' => e = .returned (.bool (decide (l = k))) ∧ Below w.heap.size w w' := by
  obtain ⟨a, c, rfl⟩ := rwat_len h
  obtain ⟨b, d, rfl⟩ := rwat_len g
  by_cases hlen : l.length = k.length
  · have e1 : ((l.length : Int) != (k.length : Int)) = false := by simp [hlen]
    by_cases hp : 0 < l.length
    · obtain ⟨b1, o1, c1, hv1, hc1, hm1, _, hcell1⟩ := rwat_some h hp
      obtain ⟨b2, o2, c2, hv2, hc2, hm2, _, hcell2⟩ := rwat_some g (by omega)
      injection hv1 with hv1 _ hv1c
      injection hv2 with hv2 _ hv2c
      subst hv1 hv2 hv1c hv2c
      unfold maxLen at hm1 hm2
      clear h g hp
      obtain ⟨r, hr⟩ : ∃ r, decide (l = k) = r := ⟨_, rfl⟩
      rw [hr]
      have HRR := hide hr.symm
      clear hr
      have HL := hide hlen
      have hlen' : l.length ≤ k.length := by omega
      clear hlen
      go_enter Try.func50, Try.ntmps50
      go_wp2
      go_loopw [13] (fun i wr => ∃ j : Nat, j ≤ l.length ∧ i = .int .i64 j ∧ Hid (l.take j = k.take j) ∧ ∃ n, w.drewN n = wr)
        (fun i _ => l.length - (intOf i).toNat)
      case atStart => exact ⟨0, Nat.zero_le _, rfl, hide rfl, 0, rfl⟩
      case round =>
        obtain ⟨j, hj, rfl, HT, n, rfl⟩ := hrel
        by_cases hlt : j < l.length
        · have x1 := hcell1 j hlt
          have x2 := hcell2 j (by omega)
          obtain ⟨x11, x12⟩ := x1
          obtain ⟨x21, x22⟩ := x2
          by_cases he : l[j] = k[j]
          · have hd : (!decide (l[j] = k[j])) = false := by simp [he]
            have HT2 := hide (take_eq_succ l k j hlt (by omega) HT.out he)
            clear he HT
            go_wp2
            go_quiet (fail)
            go_wp2
            refine ⟨?_, by first | (simp [intOf]; done) | (simp [intOf]; omega)⟩
            first
              | exact ⟨j + 1, by omega, by go_num, HT2, _, by first | rfl | trivial⟩
              | ((repeat apply Exists.intro); exact ⟨⟨j + 1, by omega, by go_num, HT2, _, by first | rfl | trivial⟩, rfl⟩)
          · have hd : (!decide (l[j] = k[j])) = true := by simp [he]
            have hne : decide (l = k) = false := by
              simp only [decide_eq_false_iff_not]
              intro h; subst h; exact he rfl
            have HNE := hide (HRR.out.trans hne)
            clear he HT hne
            go_wp2
            go_quiet (fail)
            go_wp2
            go_ret
            exact ⟨ret_bool HNE.out.symm, bl_drewN (bl_drewN (bl_refl w) _) _⟩
        · obtain rfl : j = l.length := by omega
          have he : l = k := by
            have h1 := HT.out
            rw [List.take_of_length_le (by omega), List.take_of_length_le (by have := HL.out; omega)] at h1
            exact h1
          have hne : decide (l = k) = true := by simp [he]
          have HNE := hide (HRR.out.trans hne)
          clear HT he hne hcell1 hcell2
          go_wp2
          go_ret
          exact ⟨ret_bool HNE.out.symm, bl_drewN (bl_refl w) _⟩
    · have h1 : l = [] := List.eq_nil_of_length_eq_zero (by omega)
      have h2 : k = [] := List.eq_nil_of_length_eq_zero (by omega)
      subst h1 h2
      clear h g
      simp only [List.length_nil] at *
      go_enter Try.func50, Try.ntmps50
      go_wp2
      go_loopw [13] (fun i wr => i = .int .i64 (0 : Int) ∧ w = wr) (fun i _ => 0)
      case atStart => exact ⟨rfl, rfl⟩
      case round =>
        obtain ⟨rfl, rfl⟩ := hrel
        go_wp2
        go_ret
        exact ⟨rfl, bl_refl w⟩
  · have e1 : ((l.length : Int) != (k.length : Int)) = true := by simp; omega
    have hne : decide (l = k) = false := by
      simp only [decide_eq_false_iff_not]
      intro h; subst h; exact hlen rfl
    rw [hne]
    clear h g hne
    go_enter Try.func50, Try.ntmps50
    go_wp2
    go_ret
    exact ⟨rfl, bl_refl w⟩
end Go.Proofs.Ytcgphknnnjpbkaa
