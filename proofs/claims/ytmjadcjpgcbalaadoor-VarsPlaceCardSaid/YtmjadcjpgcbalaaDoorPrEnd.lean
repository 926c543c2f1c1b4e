/- Slices of rows (two texts each): how they read, how they lie. No condition. Arguments that are rows, or slices of them: what a walk is told. No condition. Contract of gimletlaw0.Long: do texts have more than n bytes together, one for each of them too? Contracts: is an environment too much; the first value of a name; the unit. No condition but short texts and slices. -/
import Derived.Test.YtmjadcjpgcbalaaDoorRows
import Derived.Test.YtmjadcjpgcbalaaDoorOwn
import Derived.Test.YtmjadcjpgcbalaaDoorArgs
import Derived.Test.YtmjadcjpgcbalaaDoorSetM
import Derived.Test.YtmjadcjpgcbalaaDoorLater
import Derived.Deep.SlicePairs
import Derived.Lib.SmallJoins
import Derived.Deep.QuietTactic
import Derived.BigQuiet
import Derived.Deep.RegionHeld3
import Derived.Deep.DrawnRows
namespace Go.Proofs.YtmjadcjpgcbalaaDoor
section
open Go.ChangeShapes Go.WideShapes Go.ChangeAt Go.RowKit
open SetM

def encR (s : Rw) : List Value := [.string s.1, .string s.2]
def flatR (l : List Rw) : List Value := l.flatMap encR
theorem flatR_len (l : List Rw) : (flatR l).length = l.length * 2 := by
  induction l with
  | nil => rfl
  | cons a r ih => simp only [flatR, List.flatMap_cons, List.length_append, List.length_cons] at *; simp only [encR, List.length_cons, List.length_nil]; omega
theorem flatR_app (l k : List Rw) : flatR (l ++ k) = flatR l ++ flatR k := by simp [flatR]
theorem flatR_one (l : List Rw) : ∀ u ∈ flatR l, u.oneCell' = true := by
  intro u hu
  simp only [flatR, List.mem_flatMap, encR] at hu
  obtain ⟨s, _, hs⟩ := hu
  simp at hs
  rcases hs with rfl | rfl <;> rfl
theorem flatR_at (l : List Rw) (i : Nat) (h : i < l.length) : (flatR l)[i * 2]? = some (.string l[i].1) ∧ (flatR l)[i * 2 + 1]? = some (.string l[i].2) := by
  induction l generalizing i with
  | nil => simp at h
  | cons a r ih =>
    cases i with
    | zero => exact ⟨rfl, rfl⟩
    | succ i =>
      have e : flatR (a :: r) = .string a.1 :: .string a.2 :: flatR r := rfl
      have h1 : (i + 1) * 2 = i * 2 + 1 + 1 := by omega
      have h2 := ih i (by simpa using h)
      rw [e, h1, List.getElem?_cons_succ, List.getElem?_cons_succ, List.getElem?_cons_succ, List.getElem?_cons_succ]
      exact h2
theorem flatR_set1 (l : List Rw) (i : Nat) (h : i < l.length) (x : ByteArray) : (flatR l).set (i * 2 + 1) (.string x) = flatR (l.set i (l[i].1, x)) := by
  induction l generalizing i with
  | nil => simp at h
  | cons a r ih =>
    cases i with
    | zero => rfl
    | succ i =>
      have e : ∀ (b : Rw) (q : List Rw), flatR (b :: q) = .string b.1 :: .string b.2 :: flatR q := fun _ _ => rfl
      have h1 : (i + 1) * 2 + 1 = (i * 2 + 1) + 1 + 1 := by omega
      rw [e, h1, List.set_cons_succ, List.set_cons_succ, ih i (by simpa using h), List.set_cons_succ, e]
      rfl
/-- The slice reads as l. -/
def RwAt (w : World) (v : Value) (l : List Rw) : Prop :=
  (v = .slice none 0 0 ∧ l = []) ∨
  ∃ x c, v = .slice (some x) l.length c ∧ l.length ≤ c ∧ c ≤ maxLen ∧ ∀ i (h : i < l.length), w.cell? (x.add (i * 2)) = some (.string l[i].1) ∧ w.cell? (x.add (i * 2 + 1)) = some (.string l[i].2)
theorem rwat_len {w : World} {v : Value} {l : List Rw} (h : RwAt w v l) : ∃ a c, v = .slice a l.length c := by
  rcases h with ⟨rfl, rfl⟩ | ⟨x, c, rfl, _⟩
  · exact ⟨none, 0, rfl⟩
  · exact ⟨some x, c, rfl⟩
theorem rwat_below {w w' : World} {v : Value} {l : List Rw} (h : RwAt w v l) (hb : Below w.heap.size w w') : RwAt w' v l := by
  rcases h with h | ⟨x, c, rfl, h1, h2, h3⟩
  · exact .inl h
  · exact .inr ⟨x, c, rfl, h1, h2, fun i hi => ⟨cell_later hb (h3 i hi).1, cell_later hb (h3 i hi).2⟩⟩
/-- Its address, where it holds something. -/
theorem rwat_some {w : World} {v : Value} {l : List Rw} (h : RwAt w v l) (hp : 0 < l.length) :
    ∃ b off c, v = .slice (some ⟨b, off, none⟩) l.length c ∧ l.length ≤ c ∧ c ≤ maxLen ∧ b < w.heap.size ∧ ∀ i (h : i < l.length), w.cell? ⟨b, off + i * 2, none⟩ = some (.string l[i].1) ∧ w.cell? ⟨b, off + i * 2 + 1, none⟩ = some (.string l[i].2) := by
  rcases h with ⟨rfl, rfl⟩ | ⟨x, c, rfl, h1, h2, h3⟩
  · simp at hp
  · obtain ⟨b, off, spot⟩ := x
    have hc := (h3 0 hp).1
    have hspot : spot = none := by simpa [Addr.add] using World.cell?_spot hc
    subst hspot
    refine ⟨b, off, c, rfl, h1, h2, ?_, fun i hi => ?_⟩
    · have := World.block_lt_of_cell? w _ hc
      rw [addr_add] at this
      exact this
    · have := h3 i hi
      rw [addr_add, addr_add] at this
      exact this
theorem own_rwat {w : World} {base : Nat} {v : Value} {l : List Rw} (h : w.ownsRow base 46 2 v l.length (flatR l)) : RwAt w v l := by
  rcases own_form h with ⟨rfl, h1, h2⟩ | ⟨g, c, rfl, h1, h2, h3, h4, h5⟩
  · exact .inl ⟨rfl, List.eq_nil_of_length_eq_zero h1⟩
  · refine .inr ⟨_, c, rfl, h3, h4, fun i hi => ?_⟩
    rw [addr_add, addr_add]
    simp only [Nat.zero_add]
    exact ⟨h5 _ _ (flatR_at l i hi).1, h5 _ _ (flatR_at l i hi).2⟩
theorem info_rw : (Tryd.prog.info? 46).map (fun i => (i.zero, i.size, i.bytes)) = some (some (.agg #[.string ⟨#[]⟩, .string ⟨#[]⟩]), 2, 32) := by kernel_rfl
end
section
open Go.ChangeShapes Go.WideShapes Go.ChangeAt Go.RowKit Go.Deep Go.Joins
open SetM
section
variable {H : Type} {enc : TypeId × Value → H} {W : World} {base : Nat} {held : Bool}
set_option maxRecDepth 100000
def WfR (s : Rw) : Prop := s.1.size ≤ maxLen ∧ s.2.size ≤ maxLen
theorem rw_fields : ∃ f0 f1 : Field, Tryd.prog.underlying 46 = some (.struct #[f0, f1]) ∧ f0.offset = 0 ∧ f1.offset = 1 ∧ f0.type = 9 ∧ f1.type = 9 ∧ oneCellFields Tryd.prog #[f0, f1] = true := by
  refine ⟨_, _, Tryd.underlying46, ?_, ?_, ?_, ?_, ?_⟩ <;> kernel_rfl
theorem open_row {r : Reach} {b0 : Nat} {v : Value} {d : DataW H} {p : List MemPlace} {spare : Nat → Bool} (hv : Value.okWide Tryd.prog W r b0 46 v) (h : DataW.Trod enc Tryd.prog W base spare held 46 v d p) :
    ∃ s : Rw, v = .agg #[.string s.1, .string s.2] ∧ WfR s := by
  obtain ⟨f0, f1, hs, _, _, t0, t1, hone⟩ := rw_fields
  obtain ⟨v0, v1, y0, y1, n, rfl, _, _, h0, h1⟩ := open_agg2 hs hone (by kernel_rfl) hv h
  rw [t0] at h0
  rw [t1] at h1
  obtain ⟨a, e0, _, wa⟩ := DataW.trod_string Tryd.underlying9 h0
  obtain ⟨b, e1, _, wb⟩ := DataW.trod_string Tryd.underlying9 h1
  simp at e0 e1
  subst e0 e1
  exact ⟨(a, b), rfl, wa, wb⟩
theorem open_rows {r : Reach} {b0 : Nat} {v : Value} {d : DataW H} {p : List MemPlace} (hv : Value.okWide Tryd.prog W r b0 22 v) (h : DataW.Trod enc Tryd.prog W base (fun _ => true) held 22 v d p) :
    ∃ l : List Rw, RwAt W v l ∧ ∀ s ∈ l, WfR s := by
  obtain ⟨a, len, cap, rfl⟩ := okWide_slice Tryd.underlying22 hv
  obtain ⟨fuel, hf⟩ := h
  obtain ⟨f0, f1, hs, o0, o1, t0, t1, hone⟩ := rw_fields
  rcases open_slice_pairs Tryd.underlying22 hs (by kernel_rfl) o0 o1 (by rw [t0]; kernel_rfl) (by rw [t1]; kernel_rfl) hf with ⟨hcs, _⟩ | ⟨x, l, c, m, n, V0, V1, D0, D1, P0, P1, hcs, _, hl, hm, hmm, _, hcell⟩
  · simp [Value.cells] at hcs
    obtain ⟨rfl, rfl, rfl⟩ := hcs
    exact ⟨[], .inl ⟨rfl, rfl⟩, by simp⟩
  · simp [Value.cells] at hcs
    obtain ⟨rfl, rfl, rfl⟩ := hcs
    rw [t0, t1] at hcell
    have hex : ∀ i, i < len → ∃ s : Rw, W.cell? (x.add (i * 2)) = some (.string s.1) ∧ W.cell? (x.add (i * 2 + 1)) = some (.string s.2) ∧ WfR s := by
      intro i hi
      obtain ⟨h0, h1, h2, h3⟩ := hcell i (by simp only [if_true] at hmm; omega)
      obtain ⟨a, e0, _, wa⟩ := DataW.trod_string Tryd.underlying9 h2
      obtain ⟨b, e1, _, wb⟩ := DataW.trod_string Tryd.underlying9 h3
      simp at e0 e1
      rw [e0] at h0
      rw [e1] at h1
      exact ⟨(a, b), h0, h1, wa, wb⟩
    obtain ⟨q, hq⟩ := choose_lt hex
    refine ⟨(List.range len).map q, .inr ⟨x, cap, by simp, by simpa using hl, hm, fun i hi => ?_⟩, fun s hs => ?_⟩
    · simp at hi
      simp only [List.getElem_map, List.getElem_range]
      exact ⟨(hq i hi).1, (hq i hi).2.1⟩
    · simp at hs
      obtain ⟨i, hi, rfl⟩ := hs
      exact (hq i hi).2.2
end
end
section
open Go.ChangeShapes Go.WideShapes Go.ChangeAt Go.RowKit

def longL : Int → List ByteArray → Bool
  | _, [] => false
  | n, s :: r => if n ≤ s.size then true else longL (n - s.size - 1) r
def tot : List ByteArray → Nat
  | [] => 0
  | s :: r => s.size + tot r
theorem tot_le : ∀ (l : List ByteArray) (n : Int), 0 ≤ n → longL n l = false → (tot l : Int) ≤ n
  | [], n, h0, _ => by simpa [tot] using h0
  | s :: r, n, h0, h => by
    unfold longL at h
    by_cases hc : n ≤ s.size
    · rw [if_pos hc] at h; cases h
    · rw [if_neg hc] at h
      have := tot_le r (n - s.size - 1) (by omega) h
      unfold tot; omega
theorem long_end (z : List ByteArray) (n : Int) : longL n (z.drop z.length) = false := by rw [List.drop_of_length_le (Nat.le_refl _)]; rfl
theorem long_yes (z : List ByteArray) (n : Int) (k : Nat) (h : k < z.length) (hc : n ≤ (z.getD k ByteArray.empty).size) : longL n (z.drop k) = true := by
  have e : z.getD k ByteArray.empty = z[k] := by simp [List.getD, h]
  rw [e] at hc
  rw [List.drop_eq_getElem_cons h, longL, if_pos hc]
theorem long_no (z : List ByteArray) (n : Int) (k : Nat) (h : k < z.length) (hc : ¬ n ≤ (z.getD k ByteArray.empty).size) : longL n (z.drop k) = longL (n - (z.getD k ByteArray.empty).size - 1) (z.drop (k + 1)) := by
  have e : z.getD k ByteArray.empty = z[k] := by simp [List.getD, h]
  rw [e] at hc ⊢
  rw [List.drop_eq_getElem_cons h, longL, if_neg hc]
set_option maxRecDepth 100000 in
set_option maxHeartbeats 1000000 in
theorem long_any (w : World) (n : Int) (a : Option Addr) (len cap : Nat) (z : List ByteArray) (h : IsStrs w a len cap z) (hn : 0 ≤ n) (hn2 : n ≤ 1000000) :
    Calls Tryd.prog 29 #[.int .i64 n, .slice a len cap] w fun e w' => e = .returned (.bool (longL n (z.take len))) ∧ w = w' := by
  have hlen := strs_len h
  have hcell : 0 < len → ∃ b off, a = some ⟨b, off, none⟩ ∧ len ≤ cap ∧ cap ≤ maxLen ∧ (∀ i, i < len → w.cell? ⟨b, off + i, none⟩ = some (.string ((z.take len).getD i ByteArray.empty))) := fun hp => by
    obtain ⟨b, off, h1, h2, h3, h4, h5⟩ := strs_cell h hp
    exact ⟨b, off, h1, h3, h4, fun i hi => by rw [getD_take z len i _ hi]; exact h5 i (by omega)⟩
  have hzl : (z.take len).length = len := by simp; omega
  have hlc : len ≤ 9223372036854775807 := by
    rcases h with ⟨_, rfl, _⟩ | ⟨x, _, h1, h2, _⟩
    · omega
    · unfold maxLen at h2; omega
  generalize z.take len = zs at *
  have HC := hide hcell
  have HZ := hide hzl
  clear hcell hzl h hlen
  go_enter Tryd.func29, Tryd.ntmps29
  go_wp2
  go_loop [0, 5] (fun m i => ∃ (k : Nat) (m' : Int), k ≤ len ∧ i = .int .i64 k ∧ m = .int .i64 m' ∧ 0 ≤ m' ∧ m' ≤ n ∧ Hid (longL n zs = longL m' (zs.drop k)))
    (fun _ i => len - (intOf i).toNat)
  case atStart => exact ⟨0, n, Nat.zero_le _, rfl, rfl, hn, Int.le_refl _, hide rfl⟩
  case round =>
    obtain ⟨k, m', hk, rfl, rfl, hm0, hmn, HL⟩ := hrel
    by_cases hlt : k < len
    · obtain ⟨b, off, rfl, hc1, hc2, hc3⟩ := HC.out (by omega)
      have hc := hc3 k hlt
      unfold maxLen at hc2
      clear hc3
      have HY := hide (long_yes zs m' k (by rw [HZ.out]; exact hlt))
      have HN := hide (long_no zs m' k (by rw [HZ.out]; exact hlt))
      generalize zs.getD k ByteArray.empty = s at *
      by_cases hge : m' ≤ s.size
      · go_wp2
        go_ret
        exact ⟨ret_bool (by rw [HL.out, HY.out (by omega)]), rfl⟩
      · go_wp2
        have HL2 := hide ((HL.out).trans (HN.out (by omega)))
        refine ⟨?_, by simp [intOf]; omega⟩
        exact ⟨k + 1, _, by omega, by go_num, rfl, by omega, by omega, HL2⟩
    · go_wp2
      go_ret
      obtain rfl : k = len := by omega
      exact ⟨ret_bool (by rw [HL.out, ← HZ.out, long_end]), rfl⟩
end
section
open Go.ChangeShapes Go.WideShapes Go.ChangeAt Go.RowKit
open SetM
attribute [local go_sem ↓] Go.wp_at_zero Go.wp_at_succ
theorem long2_any (m : Int) (s1 s2 : ByteArray) (b : Nat) (r : Bool) (w : World) (h0 : w.cell? ⟨b, 0, none⟩ = some (.string s1)) (h1 : w.cell? ⟨b, 1, none⟩ = some (.string s2)) (z1 : s1.size ≤ maxLen) (z2 : s2.size ≤ maxLen) (hm : 0 ≤ m) (hm2 : m ≤ 1000000) (hr : longL m [s1, s2] = r) :
    Calls Tryd.prog 29 #[.int .i64 m, .slice (some ⟨b, 0, none⟩) 2 2] w fun e w' => e = .returned (.bool r) ∧ w = w' := by
  subst hr
  have hz : IsStrs w (some ⟨b, 0, none⟩) 2 2 [s1, s2] := .inr ⟨_, rfl, Nat.le_refl _, by simp [maxLen], rfl, fun i hi => by
    rw [addr_add, Nat.zero_add]
    match i, hi with
    | 0, _ => exact h0
    | 1, _ => exact h1, by simp [z1, z2]⟩
  exact long_any w m _ 2 2 [s1, s2] hz hm hm2
theorem long2_no (m : Int) (s1 s2 : ByteArray) (h : longL m [s1, s2] = false) : (s1.size : Int) < m ∧ (s2.size : Int) < m - s1.size - 1 := by
  unfold longL at h
  split at h
  · cases h
  · unfold longL at h
    split at h
    · cases h
    · omega
def MuchOk (l : List Rw) (mn n : Nat) : Prop := l.length ≤ mn ∧ ∀ s ∈ l, s.1.size ≤ n ∧ s.2.size ≤ n
def MuchPost (l : List Rw) (mn n : Nat) (w : World) (e : Ending) (w' : World) : Prop := ∃ r, e = .returned (.bool r) ∧ Below w.heap.size w w' ∧ Hid (r = false → MuchOk l mn n)
def MRel (l : List Rw) (n : Nat) (w : World) (m i : Value) (wr : World) : Prop :=
  ∃ (k : Nat) (m' : Int), i = .int .i64 k ∧ m = .int .i64 m' ∧ k ≤ l.length ∧ 0 ≤ m' ∧ m' ≤ n ∧ Hid (∀ j (hj : j < l.length), j < k → l[j].1.size ≤ n ∧ l[j].2.size ≤ n) ∧ Below w.heap.size w wr
set_option maxRecDepth 100000 in
set_option maxHeartbeats 4000000 in
theorem env_any (v : Value) (l : List Rw) (mn n : Nat) (w : World) (h : RwAt w v l) (hmn : mn ≤ 1000) (hn : n ≤ 100000) (hsz : ∀ s ∈ l, s.1.size ≤ maxLen ∧ s.2.size ≤ maxLen) :
    Calls Tryd.prog 10 #[.int .i64 (mn : Int), .int .i64 (n : Int), v] w (MuchPost l mn n w) := by
  have HW := hide h
  have HSZ := hide hsz
  obtain ⟨aA, cA, rfl⟩ := rwat_len h
  have hlm : l.length ≤ 2 ^ 63 - 1 := by
    rcases h with ⟨_, h1⟩ | ⟨x, c, _, h1, h2, _⟩
    · rw [h1]; simp
    · unfold maxLen at h2; omega
  clear h hsz
  by_cases hbig : mn < l.length
  · go_enter Tryd.func10, Tryd.ntmps10
    go_wp2
    go_ret
    exact ⟨true, rfl, bl_refl w, hide (fun h => by cases h)⟩
  · go_enter Tryd.func10, Tryd.ntmps10
    go_wp2
    go_loopw [1, 7] (fun m i wr => MRel l n w m i wr) (fun _ i _ => l.length - (intOf i).toNat)
    case atStart => exact ⟨0, n, rfl, rfl, Nat.zero_le _, by omega, Int.le_refl _, hide (fun j _ hj => by omega), bl_refl w⟩
    case round =>
      obtain ⟨k, m, rfl, rfl, hk, hm0, hmn', HT, hbl⟩ := hrel
      by_cases hlt : k < l.length
      · obtain ⟨b1, o1, c1, hv1, hc1, hm1, hlb1, hcell1⟩ := rwat_some (rwat_below HW.out hbl) (by omega)
        injection hv1 with hv1 _ hv1c
        subst hv1 hv1c
        unfold maxLen at hm1
        obtain ⟨x1, x2⟩ := hcell1 k hlt
        have hss := HSZ.out l[k] (List.getElem_mem hlt)
        have HZ1 := hide hss.1
        have HZ2 := hide hss.2
        obtain ⟨r, hr⟩ : ∃ r, longL m [l[k].1, l[k].2] = r := ⟨_, rfl⟩
        have HR := hide hr
        have HNO := hide (fun e : r = false => long2_no m l[k].1 l[k].2 (hr.trans e))
        have hnx : r = false → ∀ j (hj : j < l.length), j < k + 1 → l[j].1.size ≤ n ∧ l[j].2.size ≤ n := fun e j hj hjk => by
          by_cases hjk2 : j = k
          · subst hjk2; have := HNO.out e; omega
          · exact HT.out j hj (by omega)
        have HNX := hide hnx
        clear hcell1 hss hr hnx HT
        obtain ⟨s, hs⟩ : ∃ s, l[k] = s := ⟨_, rfl⟩
        rw [hs] at x1 x2 HZ1 HZ2 HR HNO
        obtain ⟨s1, s2⟩ := s
        try simp only at x1 x2 HZ1 HZ2 HR HNO
        clear hs
        go_wp2
        go_region_held3 (fun w' => w'.cell? ⟨b1, o1 + k * 2, none⟩ = some (.string s1) ∧ w'.cell? ⟨b1, o1 + k * 2 + 1, none⟩ = some (.string s2)) (go_keep)
          (first | (go_at_call 29; refine (long2_any m s1 s2 _ r _ (by go_simp) (by go_simp) HZ1.out HZ2.out (by omega) (by omega) HR.out).mono ?_; rintro e w1 ⟨rfl, rfl⟩))
        all_goals
          cases r
          · obtain ⟨hz1, hz2⟩ := HNO.out rfl
            have HT2 := hide (HNX.out rfl)
            have hbl2 : ∀ o q, Below w.heap.size w ((wr.alloc o).drewN q) := fun o q => bl_drewN (bl_alloc hbl o) q
            clear HNO HNX HR HZ1 HZ2
            go_wp2
            go_quiet (fail)
            go_wp2
            refine ⟨?_, by first | (simp [intOf]; done) | (simp [intOf]; omega)⟩
            exact ⟨k + 1, m - s1.size - s2.size, by go_num, rfl, by omega, by omega, by omega, HT2, hbl2 _ _⟩
          · go_wp2
            go_ret
            exact ⟨true, rfl, bl_drew (bl_alloc hbl _), hide (fun h => by cases h)⟩
      · have hok : MuchOk l mn n := ⟨by omega, fun s hs => by
          obtain ⟨i, hi, rfl⟩ := List.getElem_of_mem hs
          exact HT.out i hi (by omega)⟩
        have HOK := hide (show MuchPost l mn n w (.returned (.bool false)) wr from ⟨false, rfl, hbl, hide (fun _ => hok)⟩)
        clear HT hok
        go_wp2
        go_ret
        exact HOK.out
def getV (nm : ByteArray) : List Rw → ByteArray
  | [] => ⟨#[]⟩
  | s :: r => if eqB s.1 nm = true then s.2 else getV nm r
def getB (nm : ByteArray) (l : List Rw) : Bool := l.any fun s => eqB s.1 nm
theorem getV_drop (nm : ByteArray) (l : List Rw) (k : Nat) (h : k < l.length) (hn : eqB l[k].1 nm = false) : getV nm (l.drop k) = getV nm (l.drop (k + 1)) := by
  rw [List.drop_eq_getElem_cons h, getV, if_neg (by rw [hn]; simp)]
theorem getV_at (nm : ByteArray) (l : List Rw) (k : Nat) (h : k < l.length) (hn : eqB l[k].1 nm = true) : getV nm (l.drop k) = l[k].2 := by
  rw [List.drop_eq_getElem_cons h, getV, if_pos hn]
theorem getB_drop (nm : ByteArray) (l : List Rw) (k : Nat) (h : k < l.length) (hn : eqB l[k].1 nm = false) : getB nm (l.drop k) = getB nm (l.drop (k + 1)) := by
  unfold getB; rw [List.drop_eq_getElem_cons h, List.any_cons, hn]; rfl
theorem getB_at (nm : ByteArray) (l : List Rw) (k : Nat) (h : k < l.length) (hn : eqB l[k].1 nm = true) : getB nm (l.drop k) = true := by
  unfold getB; rw [List.drop_eq_getElem_cons h, List.any_cons, hn]; rfl
set_option maxRecDepth 100000 in
set_option maxHeartbeats 2000000 in
theorem rget_any (v : Value) (l : List Rw) (nm X : ByteArray) (b : Bool) (w : World) (h : RwAt w v l) (hl : l.length ≤ 1000) (hX : getV nm l = X) (hb : getB nm l = b) :
    Calls Tryd.prog 16 #[.string nm, v] w fun e w' => e = .returned (.tuple #[.string X, .bool b]) ∧ w = w' := by
  have HW := hide h
  have HX := hide hX
  have HB := hide hb
  obtain ⟨aA, cA, rfl⟩ := rwat_len h
  clear h hX hb
  go_enter Tryd.func16, Tryd.ntmps16
  go_wp2
  go_loopw [6] (fun i wr => ∃ k : Nat, i = .int .i64 k ∧ k ≤ l.length ∧ Hid (getV nm (l.drop k) = X) ∧ Hid (getB nm (l.drop k) = b) ∧ w = wr) (fun i _ => l.length - (intOf i).toNat)
  case atStart => exact ⟨0, rfl, Nat.zero_le _, HX, HB, rfl⟩
  case round =>
    obtain ⟨k, rfl, hk, HV, HG, rfl⟩ := hrel
    by_cases hlt : k < l.length
    · obtain ⟨b1, o1, c1, hv1, hc1, hm1, hlb1, hcell1⟩ := rwat_some HW.out (by omega)
      injection hv1 with hv1 _ hv1c
      subst hv1 hv1c
      unfold maxLen at hm1
      obtain ⟨x1, x2⟩ := hcell1 k hlt
      obtain ⟨r, hr⟩ : ∃ r, eqB l[k].1 nm = r := ⟨_, rfl⟩
      have hr2 : (l[k].1.toList == nm.toList) = r := hr
      cases r
      · have HV2 := hide ((getV_drop nm l k hlt hr).symm.trans HV.out)
        have HG2 := hide ((getB_drop nm l k hlt hr).symm.trans HG.out)
        clear hr HV HG hcell1
        generalize l[k] = s at *
        go_wp2
        refine ⟨?_, by first | (simp [intOf]; done) | (simp [intOf]; omega)⟩
        first
          | exact ⟨k + 1, by go_num, by omega, HV2, HG2, by first | rfl | trivial⟩
          | ((repeat apply Exists.intro); exact ⟨⟨k + 1, by go_num, by omega, HV2, HG2, by first | rfl | trivial⟩, rfl⟩)
      · have e1 := (getV_at nm l k hlt hr).symm.trans HV.out
        have e2 := (getB_at nm l k hlt hr).symm.trans HG.out
        rw [e1] at x2
        obtain ⟨s1, hs1⟩ : ∃ s1, l[k].1 = s1 := ⟨_, rfl⟩
        rw [hs1] at x1 hr2
        subst e2
        clear hr HV HG hcell1 HX HB hs1 e1
        go_wp2
        go_ret2
        exact ⟨rfl, rfl⟩
    · obtain rfl : k = l.length := by omega
      have e1 := HV.out
      have e2 := HG.out
      rw [List.drop_length] at e1 e2
      have e1' : (⟨#[]⟩ : ByteArray) = X := e1
      have e2' : false = b := e2
      subst e1' e2'
      clear e1 e2 HV HG HX HB hlt
      go_wp2
      go_ret2
      exact ⟨rfl, rfl⟩
theorem clos_any (s : Rw) (nm : ByteArray) (b : Nat) (r : Bool) (w : World) (h : w.cell? ⟨b, 0, none⟩ = some (.string nm)) (hr : eqB s.1 nm = r) :
    Calls Tryd.prog 58 #[.agg #[.string s.1, .string s.2], .pointer (some ⟨b, 0, none⟩)] w fun e w' => e = .returned (.bool r) ∧ Below w.heap.size w w' := by
  have hlt : b < w.heap.size := World.block_lt_of_cell? w _ h
  have hne : b ≠ w.heap.size := by omega
  have hr2 : (s.1.toList == nm.toList) = r := hr
  clear hr
  obtain ⟨s1, s2⟩ := s
  try simp only at hr2
  go_enter Tryd.func58, Tryd.ntmps58
  go_wp2
  go_ret
  exact ⟨rfl, bl_alloc (bl_refl w) _⟩
def IdxPost (l : List Rw) (nm : ByteArray) (w : World) (e : Ending) (w' : World) : Prop :=
  ∃ j : Int, e = .returned (.int .i64 j) ∧ Below w.heap.size w w' ∧ Hid ((j = -1 ∧ getV nm l = ⟨#[]⟩ ∧ getB nm l = false) ∨ ∃ (k : Nat) (h : k < l.length), j = k ∧ getV nm l = l[k].2 ∧ getB nm l = true)
set_option maxRecDepth 100000 in
set_option maxHeartbeats 2000000 in
theorem idx_any (v : Value) (l : List Rw) (nm : ByteArray) (b : Nat) (w : World) (h : RwAt w v l) (hl : l.length ≤ 1000) (hc : w.cell? ⟨b, 0, none⟩ = some (.string nm)) :
    Calls Tryd.prog 57 #[v, .func (.func 58) #[] #[.pointer (some ⟨b, 0, none⟩)]] w (IdxPost l nm w) := by
  have HW := hide h
  have HC := hide hc
  obtain ⟨aA, cA, rfl⟩ := rwat_len h
  clear h hc
  go_enter Tryd.func57, Tryd.ntmps57
  go_wp2
  go_loopw [8] (fun i wr => ∃ k : Nat, i = .int .i64 k ∧ k ≤ l.length ∧ Hid (getV nm (l.drop k) = getV nm l) ∧ Hid (getB nm (l.drop k) = getB nm l) ∧ Below w.heap.size w wr) (fun i _ => l.length - (intOf i).toNat)
  case atStart => exact ⟨0, rfl, Nat.zero_le _, hide rfl, hide rfl, bl_refl w⟩
  case round =>
    obtain ⟨k, rfl, hk, HV, HG, hbl⟩ := hrel
    by_cases hlt : k < l.length
    · obtain ⟨b1, o1, c1, hv1, hc1, hm1, hlb1, hcell1⟩ := rwat_some (rwat_below HW.out hbl) (by omega)
      injection hv1 with hv1 _ hv1c
      subst hv1 hv1c
      unfold maxLen at hm1
      obtain ⟨x1, x2⟩ := hcell1 k hlt
      obtain ⟨r, hr⟩ : ∃ r, eqB l[k].1 nm = r := ⟨_, rfl⟩
      have HCL := hide (fun W (hW : W.cell? ⟨b, 0, none⟩ = some (.string nm)) => clos_any l[k] nm b r W hW hr)
      have HCN := hide (cell_later hbl HC.out)
      cases r
      · have HV2 := hide ((getV_drop nm l k hlt hr).symm.trans HV.out)
        have HG2 := hide ((getB_drop nm l k hlt hr).symm.trans HG.out)
        clear hr HV HG hcell1
        generalize l[k] = s at *
        go_wp2_with (go_at_call 58; refine (HCL.out _ HCN.out).mono ?_; rintro e w1 ⟨rfl, hb1⟩)
        refine ⟨?_, by first | (simp [intOf]; done) | (simp [intOf]; omega)⟩
        have hb2 := bl_trans hbl hb1
        first
          | exact ⟨k + 1, by go_num, by omega, HV2, HG2, hb2⟩
          | ((repeat apply Exists.intro); exact ⟨⟨k + 1, by go_num, by omega, HV2, HG2, hb2⟩, rfl⟩)
      · have HP := hide (show ∀ W, Below w.heap.size w W → IdxPost l nm w (.returned (.int .i64 k)) W from fun W hW => ⟨k, rfl, hW, hide (.inr ⟨k, hlt, rfl, by rw [← HV.out, getV_at nm l k hlt hr], by rw [← HG.out, getB_at nm l k hlt hr]⟩)⟩)
        clear hr HV HG hcell1
        generalize l[k] = s at *
        go_wp2_with (go_at_call 58; refine (HCL.out _ HCN.out).mono ?_; rintro e w1 ⟨rfl, hb1⟩)
        go_ret
        exact HP.out _ (bl_trans hbl hb1)
    · obtain rfl : k = l.length := by omega
      have e1 := HV.out
      have e2 := HG.out
      rw [List.drop_length] at e1 e2
      have HP := hide (show IdxPost l nm w (.returned (.int .i64 (-1))) wr from ⟨-1, rfl, hbl, hide (.inl ⟨rfl, e1.symm, e2.symm⟩)⟩)
      clear e1 e2 HV HG hlt
      go_wp2
      go_ret
      exact HP.out
set_option maxRecDepth 100000 in
set_option maxHeartbeats 2000000 in
theorem get_any (v : Value) (l : List Rw) (nm X : ByteArray) (b : Bool) (w : World) (h : RwAt w v l) (hl : l.length ≤ 1000) (hX : getV nm l = X) (hb : getB nm l = b) :
    Calls Tryd.prog 15 #[.string nm, v] w fun e w' => e = .returned (.tuple #[.string X, .bool b]) ∧ Below w.heap.size w w' := by
  have HW := hide h
  have HX := hide hX
  have HB := hide hb
  obtain ⟨aA, cA, rfl⟩ := rwat_len h
  clear h hX hb
  go_enter Tryd.func15, Tryd.ntmps15
  go_wp2_with fail
  have hfind : Calls Tryd.prog 31 #[.string nm, .slice aA l.length cA] w (IdxPost l nm w) := by
    have HW1 := hide (rwat_below HW.out (bl_alloc (bl_refl w) (.cells #[.string nm] 9)))
    have hcc : (w.alloc (.cells #[.string nm] 9)).cell? ⟨w.heap.size, 0, none⟩ = some (.string nm) := by go_simp
    have HCC := hide hcc
    clear hcc
    go_enter Tryd.func31, Tryd.ntmps31
    go_wp2_with fail
    refine (idx_any _ l nm w.heap.size _ HW1.out hl HCC.out).mono ?_
    rintro e w1 ⟨j, rfl, hb1, HJ⟩
    have HP := hide (show IdxPost l nm w (.returned (.int .i64 j)) w1 from ⟨j, rfl, bl_trans (bl_alloc (bl_refl w) _) hb1, HJ⟩)
    go_wp2
    go_ret
    exact HP.out
  refine hfind.mono ?_
  clear hfind
  rintro e w1 ⟨j, rfl, hb1, HJ⟩
  rcases HJ.out with ⟨rfl, h1, h2⟩ | ⟨k, hk, rfl, h1, h2⟩
  · have e1 := h1.symm.trans HX.out
    have e2 := h2.symm.trans HB.out
    subst e1 e2
    clear h1 h2 HJ HX HB
    go_wp2
    go_ret2
    exact ⟨rfl, hb1⟩
  · have e1 := h1.symm.trans HX.out
    have e2 := h2.symm.trans HB.out
    subst e2
    obtain ⟨b1, o1, c1, hv1, hc1, hm1, hlb1, hcell1⟩ := rwat_some (rwat_below HW.out hb1) (by omega)
    injection hv1 with hv1 _ hv1c
    subst hv1 hv1c
    unfold maxLen at hm1
    obtain ⟨x1, x2⟩ := hcell1 k hk
    rw [e1] at x2
    have hk0 : decide ((k : Int) < 0) = false := by simp
    clear h1 h2 HJ HX HB hcell1 e1
    go_wp2
    go_ret2
    exact ⟨rfl, hb1⟩
end
end Go.Proofs.YtmjadcjpgcbalaaDoor
