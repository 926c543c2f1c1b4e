/- Contracts: a list of rows copied (deep.List). Condition: not too many. -/
import Derived.Test.YtcgphknnnjpbkaaRxD
import Derived.Deep.RegionHeld3
import Derived.OwnWalk
namespace Go.Proofs.Ytcgphknnnjpbkaa
open Go.ChangeShapes Go.WideShapes Go.ChangeAt Go.RowKit
open SetM
attribute [local go_sem ↓] Go.wp_at_zero Go.wp_at_succ
set_option maxRecDepth 100000
set_option linter.unusedVariables false
def fillR (l : List Rw) (k : Nat) : List Rw := l.take k ++ List.replicate (l.length - k) (⟨#[]⟩, ⟨#[]⟩)
theorem fillR_len (l : List Rw) (k : Nat) (hk : k ≤ l.length) : (fillR l k).length = l.length := by unfold fillR; simp; omega
theorem fillR_succ (l : List Rw) (k : Nat) (h : k < l.length) : (fillR l k).set k l[k] = fillR l (k + 1) := by
  unfold fillR
  have hl : (l.take k).length = k := by simp; omega
  rw [List.set_append_right _ _ (by omega), hl, Nat.sub_self, List.take_succ_eq_append_getElem h, show l.length - k = (l.length - (k + 1)) + 1 by omega, List.replicate_succ, List.set_cons_zero, List.append_assoc]
  rfl
theorem fillR_all (l : List Rw) : fillR l l.length = l := by unfold fillR; simp
theorem flatR_set2 (l : List Rw) (i : Nat) (h : i < l.length) (s : Rw) : ((flatR l).set (i * 2) (.string s.1)).set (i * 2 + 1) (.string s.2) = flatR (l.set i s) := by
  induction l generalizing i with
  | nil => simp at h
  | cons a r ih =>
    cases i with
    | zero => rfl
    | succ i =>
      have e : ∀ (b : Rw) (q : List Rw), flatR (b :: q) = .string b.1 :: .string b.2 :: flatR q := fun _ _ => rfl
      have h1 : (i + 1) * 2 = i * 2 + 1 + 1 := by omega
      rw [e, h1, List.set_cons_succ, List.set_cons_succ, List.set_cons_succ, List.set_cons_succ, ih i (by simpa using h), List.set_cons_succ, e]
theorem own_putR {w : World} {base g n c : Nat} {l : List Rw} (h : w.ownsRow base 47 2 (.slice (some ⟨g, 0, none⟩) n c) n (flatR l)) (i : Nat) (hi : i < l.length) (s : Rw) :
    ((w.setCell ⟨g, i * 2, none⟩ (.string s.1)).setCell ⟨g, i * 2 + 1, none⟩ (.string s.2)).ownsRow base 47 2 (.slice (some ⟨g, 0, none⟩) n c) n (flatR (l.set i s)) := by
  have h1 := (World.ownsRow.stored h (i * 2) (.string s.1)).1
  have h2 := (World.ownsRow.stored h1 (i * 2 + 1) (.string s.2)).1
  rw [flatR_set2 l i hi s] at h2
  exact h2
theorem made_flatR (n : Nat) : (madeCells #[Value.string ⟨#[]⟩, Value.string ⟨#[]⟩] (n * 2)).toList = flatR (List.replicate n (⟨#[]⟩, ⟨#[]⟩)) := by
  apply List.ext_getElem
  · rw [flatR_len]; simp [madeCells]
  · intro i h1 h2
    have hi : i < n * 2 := by simpa [madeCells] using h1
    have hf := flatR_at (List.replicate n ((⟨#[]⟩ : ByteArray), (⟨#[]⟩ : ByteArray))) (i / 2) (by simp; omega)
    have e1 : (madeCells #[Value.string ⟨#[]⟩, Value.string ⟨#[]⟩] (n * 2)).toList[i] = .string ⟨#[]⟩ := by
      simp only [madeCells, Array.toList_map, Array.toList_range, List.getElem_map, List.getElem_range]
      rcases Nat.mod_two_eq_zero_or_one i with h | h <;> simp [h]
    rw [e1]
    simp only [List.getElem_replicate] at hf
    rcases Nat.mod_two_eq_zero_or_one i with h | h
    · have ht : i / 2 * 2 = i := by omega
      rw [ht, List.getElem?_eq_getElem h2] at hf
      exact (Option.some.inj hf.1).symm
    · have ht : i / 2 * 2 + 1 = i := by omega
      rw [ht, List.getElem?_eq_getElem h2] at hf
      exact (Option.some.inj hf.2).symm
theorem results_cell1 {fn : Func} {p : Tmp} {ty : TypeId} (h : fn.results = #[.cell p ty]) (tmps : Array Value) (P : Program) (w : World) :
    (results fn tmps).run P w = ((asAddr (tmps.getD p undef)).run P w).andThen fun a w₁ => (loadVar ty a).run P w₁ := by
  simp only [results, h]
  simp [Sem.run_bind, Result.andThen]
theorem idrow_any (a b : ByteArray) (w : World) : Calls Try.prog 89 #[.agg #[.string a, .string b]] w fun e w' => e = .returned (.agg #[.string a, .string b]) ∧ Below w.heap.size w w' := by
  have hb := hide (fun o1 o2 => bl_alloc (bl_alloc (bl_refl w) o1) o2)
  go_enter Try.func89, Try.ntmps89
  go_wp2
  refine bodyPost_ret (v := .agg #[.string a, .string b]) ?_ rfl ⟨rfl, hb.out _ _⟩
  rw [results_cell1 rfl]
  go_simp
/-- A slice from block n on. -/
def FrV (n : Nat) (v : Value) : Prop := ∀ x len c, v = .slice (some x) len c → n ≤ x.block
def RwPost (w : World) (l : List Rw) : Ending → World → Prop := fun e w' => ∃ v', e = .returned v' ∧ Below w.heap.size w w' ∧ RwAt w' v' l ∧ FrV w.heap.size v'
def RInv (l : List Rw) (w1 : World) (i : Value) (wr : World) : Prop :=
  ∃ k : Nat, i = .int .i64 k ∧ k ≤ l.length ∧ Hid (wr.ownsRow w1.heap.size 47 2 (.slice (some ⟨w1.heap.size, 0, none⟩) l.length l.length) l.length (flatR (fillR l k))) ∧ Hid (Below w1.heap.size w1 wr) ∧ w1.heap.size < wr.heap.size
set_option maxHeartbeats 8000000 in
theorem eachrows_any (v : Value) (l : List Rw) (w : World) (h : RwAt w v l) (hl : l.length ≤ 100000) :
    Calls Try.prog 88 #[v, .func (.func 89) #[] #[]] w (RwPost w l) := by
  obtain ⟨i0, hi0, hz0', hz1, hz2⟩ := info_parts info_rw
  obtain ⟨vA, vc, rfl⟩ := rwat_len h
  have H := hide h
  unfold RwPost
  rcases l with _ | ⟨s0, lr⟩
  · clear h hl H
    simp only [List.length_nil] at *
    go_enter Try.func88, Try.ntmps88
    go_wp2
    go_ret
    exact ⟨_, rfl, bl_refl w, .inl ⟨rfl, rfl⟩, fun x len c h => by cases h⟩
  obtain ⟨l, hll⟩ : ∃ l, s0 :: lr = l := ⟨_, rfl⟩
  have hpos : 0 < l.length := by rw [← hll]; simp
  rw [hll] at H h hl ⊢
  clear hll h
  have gz : ((l.length : Int) == 0) = false := beq_eq_false_iff_ne.2 (by omega)
  go_enter Try.func88, Try.ntmps88
  go_wp2_with (refine wpList_make_full _ rfl (.tmp 12) (.tmp 12) 23 rfl w.heap.size 47 i0 (.agg #[.string ⟨#[]⟩, .string ⟨#[]⟩]) 2 Try.underlying23 hi0 hz0' hz1 .i64 .i64 l.length l.length l.length rfl rfl rfl rfl (by rw [hz2]; omega) (by unfold maxLen; omega) (Nat.le_refl _) ?_; intro w2 ho2 hg2)
  have hb2 : Below w.heap.size w w2 := bl_grown (bl_refl w) hg2 (fun k hk => by cases hk)
  have hst : RInv l w (.int .i64 0) w2 := ⟨0, rfl, Nat.zero_le _, hide (by
    have e : (madeCells (Value.agg #[.string ⟨#[]⟩, .string ⟨#[]⟩]).cells (l.length * 2)).toList = flatR (fillR l 0) := by
      have := made_flatR l.length
      unfold fillR
      simpa [Value.cells] using this
    rw [← e]; exact ho2), hide hb2, (World.ownsRow.lt ho2 _ rfl).2⟩
  have HST0 := hide hst
  clear hst ho2 hg2 hb2
  go_wp2
  go_loopw [16] (fun i wr => RInv l w i wr) (fun i _ => l.length - (intOf i).toNat)
  case atStart => exact HST0.out
  case round =>
    obtain ⟨k, rfl, hk, HROW, HBL, hlt1⟩ := hrel
    by_cases hlt : k < l.length
    · obtain ⟨b1, o1, c1', hv1, hc1, hm1, hlb1, hcell1⟩ := rwat_some (rwat_below H.out HBL.out) (by omega)
      injection hv1 with hv1 _ hv1c
      subst hv1 hv1c
      unfold maxLen at hm1
      obtain ⟨x1, x2⟩ := hcell1 k hlt
      have hfl := fillR_len l k hk
      have hsu := fillR_succ l k hlt
      clear hcell1
      generalize l[k] = s at *
      obtain ⟨s1, s2⟩ := s
      have HSU := hide hsu
      have z1 : wr.cell? ⟨w.heap.size, k * 2, none⟩ = some (.string (fillR l k)[k].1) := by rw [World.ownsRow.cellAt HROW.out (k * 2) (by omega)]; exact (flatR_at _ k (by omega)).1
      have z2 : wr.cell? ⟨w.heap.size, k * 2 + 1, none⟩ = some (.string (fillR l k)[k].2) := by rw [World.ownsRow.cellAt HROW.out (k * 2 + 1) (by omega)]; exact (flatR_at _ k (by omega)).2
      generalize (fillR l k)[k].1 = q1 at z1
      generalize (fillR l k)[k].2 = q2 at z2
      have HFL := hide hfl
      clear hfl hsu
      have gl : decide (k < l.length) = true := decide_eq_true hlt
      have gl' : decide ((k : Int) < (l.length : Int)) = true := decide_eq_true (by omega)
      have e5 : IntKind.i64.wrap ((k : Int) + 1) = (k : Int) + 1 := by rw [IntKind.wrap_i64]; omega
      have hfin := fun W (hh : Below wr.heap.size wr W) => own_putR (own_below HROW.out hh) k (by rw [HFL.out]; exact hlt) (s1, s2)
      rw [HSU.out] at hfin
      have HFIN := hide hfin
      have HFZ := hide (fun W (hh : Below wr.heap.size wr W) => World.ownsRow.frozenAt (own_below HROW.out hh))
      have HC := hide (fun W => idrow_any s1 s2 W)
      clear hfin HSU
      go_wp2_with fail
      refine (HC.out _).mono ?_
      rintro e w2 ⟨rfl, hb2⟩
      have hba := bl_trans (bl_alloc (bl_refl wr) _) hb2
      have y1 := cell_later hba z1
      have y2 := cell_later hba z2
      have va3 := HFZ.out _ hba (k * 2)
      have va4 := HFZ.out _ hba (k * 2 + 1)
      have HBB := hide hba
      have hsz := hba.size
      clear hba hb2 x1 x2 z1 z2
      go_wp2
      refine ⟨?_, by first | (simp [intOf]; done) | (simp [intOf]; omega)⟩
      refine ⟨k + 1, by go_num, by omega, hide ?_, hide ?_, ?_⟩
      · exact HFIN.out _ HBB.out
      · exact bl_set (bl_set (bl_trans HBL.out HBB.out) (Nat.le_refl _) _) (Nat.le_refl _) _
      · simp [World.setCell]; omega
    · obtain rfl : k = l.length := by omega
      have ho := own_base HROW.out (Nat.le_refl _)
      rw [fillR_all] at ho
      have HO := hide (own_rwat ho)
      have gl : decide (l.length < l.length) = false := by simp
      have gl' : decide ((l.length : Int) < (l.length : Int)) = false := by simp
      clear ho
      go_wp2
      go_ret
      exact ⟨_, rfl, HBL.out, HO.out, fun x len c h => by cases h; exact Nat.le_refl _⟩
theorem listrows_any (v : Value) (l : List Rw) (w : World) (h : RwAt w v l) (hl : l.length ≤ 100000) :
    Calls Try.prog 69 #[v] w (RwPost w l) := by
  have HC := hide (eachrows_any v l w h hl)
  clear h hl
  unfold RwPost at *
  go_enter Try.func69, Try.ntmps69
  go_wp2_with fail
  refine HC.out.mono ?_
  rintro e w2 ⟨v', rfl, hb2, hr, hf⟩
  have HB := hide hb2
  have HR := hide (And.intro hr hf)
  clear hb2 hr hf
  go_wp2
  go_ret
  exact ⟨_, rfl, HB.out, HR.out⟩
end Go.Proofs.Ytcgphknnnjpbkaa
