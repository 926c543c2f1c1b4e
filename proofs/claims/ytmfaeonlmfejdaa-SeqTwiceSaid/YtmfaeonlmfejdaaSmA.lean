/- Plain facts of what is made of trees; contract: trees (layer 13's laws): what texts are read as. Condition: at most 8 texts of 100 bytes together. -/
import Derived.Test.YtmfaeonlmfejdaaRrY
import Derived.Test.YtmfaeonlmfejdaaArgs
import Derived.Test.YtmfaeonlmfejdaaLong
namespace Go.Proofs.Ytmfaeonlmfejdaa
open Go.ChangeShapes Go.WideShapes Go.ChangeAt Go.RowKit
open SetM
attribute [local go_sem ↓] Go.wp_at_zero Go.wp_at_succ
set_option maxRecDepth 100000
set_option linter.unusedVariables false
attribute [local go_sem] later_cell later_frozen
theorem okM_part {t : Rt} (h : okM t = true) : mkB t.k t.kids = true ∧ ∀ x ∈ t.kids, okM x = true := by
  rw [okM_eq] at h
  simp only [Bool.and_eq_true] at h
  exact ⟨h.1.2, okL_all.1 h.2⟩
theorem ok_er (t : Rt) : okM (er t) = okM t := okM_er t
theorem flKx_snoc (k : Int) (l : List Rt) (x : Rt) : flK k (l ++ [x]) = flK k l ++ (if x.k = k then x.kids.map er else [er x]) := by
  unfold flK; rw [List.flatMap_append]; simp
theorem pL_map_er (l : List Rt) : pL (l.map er) = pL l := by rw [← erL_map]; exact pL_er l
theorem pL_flKx_snoc (k : Int) (l : List Rt) (x : Rt) : pL (flK k (l ++ [x])) + (if x.k = k then 1 else 0) = pL (flK k l) + pM x := by
  rw [flKx_snoc, pL_app]
  have h1 := pM_eq x
  split
  · rw [pL_map_er]; omega
  · have e : pL [er x] = pM (er x) + 0 := rfl
    rw [e, pM_er]; omega
theorem pL_flK_le (k : Int) (l : List Rt) : pL (flK k l) ≤ pL l := by
  induction l with
  | nil => exact Nat.le_refl _
  | cons a r ih =>
    unfold flK at ih ⊢
    rw [List.flatMap_cons, pL_app]
    have e : pL (a :: r) = pM a + pL r := rfl
    rw [e]
    have h1 := pM_eq a
    split
    · rw [pL_map_er]; omega
    · have e : pL [er a] = pM (er a) + 0 := rfl
      rw [e, pM_er]; omega
/-- What the parts of good trees are. -/
theorem flK_good (k : Int) (hk : k = 0 ∨ k = 1) (l : List Rt) (h : ∀ x ∈ l, okM x = true ∧ dM x ≤ 16) : (∀ x ∈ flK k l, okM x = true ∧ dM x ≤ 16 ∧ x.k ≠ k ∧ (k = 0 → (∀ y ∈ l, y.k ≠ 1) → x.k ≠ 1)) := by
  intro x hx
  unfold flK at hx
  obtain ⟨a, ha, hx⟩ := List.mem_flatMap.1 hx
  obtain ⟨h1, h2⟩ := h a ha
  split at hx
  · rename_i hak
    obtain ⟨y, hy, rfl⟩ := List.mem_map.1 hx
    obtain ⟨m1, m2⟩ := okM_part h1
    obtain ⟨i, hi, rfl⟩ := List.mem_iff_getElem.1 hy
    have hd := dL_kid a.kids i hi
    have hde := dM_eq a
    have hky : (er a.kids[i]).k = a.kids[i].k := by rw [er_eq]; rfl
    refine ⟨by rw [ok_er]; exact m2 _ hy, by rw [dM_er]; omega, ?_, ?_⟩
    · rw [hky]
      unfold mkB at m1
      rcases hk with rfl | rfl
      · rw [hak, if_pos rfl] at m1
        simp only [Bool.and_eq_true, List.all_eq_true] at m1
        have := m1.2 _ hy
        unfold seqkB at this
        simp only [Bool.and_eq_true, Bool.not_eq_true', decide_eq_false_iff_not] at this
        exact this.1
      · rw [hak, if_neg (by decide), if_pos rfl] at m1
        simp only [Bool.and_eq_true, List.all_eq_true] at m1
        have := m1.2 _ hy
        unfold altkB at this
        simpa using this
    · rintro rfl _
      rw [hky]
      unfold mkB at m1
      rw [hak, if_pos rfl] at m1
      simp only [Bool.and_eq_true, List.all_eq_true] at m1
      have := m1.2 _ hy
      unfold seqkB at this
      simp only [Bool.and_eq_true, Bool.not_eq_true', decide_eq_false_iff_not] at this
      exact this.2
  · rename_i hak
    obtain rfl : x = er a := by simpa using hx
    have hka : (er a).k = a.k := by rw [er_eq]; rfl
    exact ⟨by rw [ok_er]; exact h1, by rw [dM_er]; exact h2, by rw [hka]; exact hak, fun _ hy => by rw [hka]; exact hy a ha⟩
theorem dLx_le {l : List Rt} {g : Nat} (h : ∀ x ∈ l, dM x ≤ g) : dL l ≤ g := by
  induction l with
  | nil => exact Nat.zero_le _
  | cons a r ih =>
    have e : dL (a :: r) = max (dM a) (dL r) := rfl
    have h1 := h a List.mem_cons_self
    have h2 := ih (fun x hx => h x (List.mem_cons_of_mem _ hx))
    omega
/-- Alternatives of good trees. -/
theorem alt_good {l : List Rt} (h : ∀ x ∈ l, okM x = true ∧ dM x ≤ 16) (hp : pL l ≤ 400) : cnB (altX (flK 1 l)) 16 512 = true ∧ ((altX (flK 1 l)).k = 1 → pM (altX (flK 1 l)) = 1 + pL (flK 1 l)) ∧ pM (altX (flK 1 l)) ≤ 1 + pL (flK 1 l) := by
  have hg := flK_good 1 (.inr rfl) l h
  have hle := pL_flK_le 1 l
  by_cases h0 : flK 1 l = []
  · rw [h0]
    exact ⟨by decide, fun q => absurd q (by decide), by decide⟩
  · have ha : AAcc 16 (flK 1 l) := ⟨fun x hx => (hg x hx).1, fun x hx => (hg x hx).2.2.1, flK_ers 1 l, dLx_le (fun x hx => (hg x hx).2.1)⟩
    have hn := flK_none (k := 1) (fun x hx => ha.kd x hx) ha.er
    obtain ⟨c1, c2, -, c4⟩ := alt_va ha h0
    rw [hn] at c1 c2 c4
    have hpm : pM (altX (flK 1 l)) ≤ 1 + pL (flK 1 l) := by split at c2 <;> omega
    refine ⟨cnB_of (by omega) (by omega) c1, fun hk => ?_, hpm⟩
    rcases hl : flK 1 l with _ | ⟨x, _ | ⟨y, r⟩⟩
    · exact absurd hl h0
    · rw [hl] at hk
      have : x.k = 1 := hk
      exact absurd this (ha.kd x (by rw [hl]; simp))
    · rw [hl] at c2
      rw [if_neg (by simp)] at c2
      omega
/-- Good trees, none of them alternatives, one behind the other. -/
theorem seq_good {l : List Rt} (h : ∀ x ∈ l, okM x = true ∧ dM x ≤ 16) (hk : ∀ x ∈ l, x.k ≠ 1) (hp : pL l ≤ 400) : cnB (seqX (flK 0 l)) 16 512 = true ∧ (pM (seqX (flK 0 l)) = 1 + pL (flK 0 l) ∨ pM (seqX (flK 0 l)) = pL (flK 0 l)) := by
  have hg := flK_good 0 (.inl rfl) l h
  have hle := pL_flK_le 0 l
  have hd := dLx_le (l := flK 0 l) (fun x hx => (hg x hx).2.1)
  unfold seqX
  split
  · rename_i hl
    match hq : flK 0 l, hl with
    | [a], _ =>
      obtain ⟨g1, g2, -, -⟩ := hg a (by rw [hq]; simp)
      rw [hq] at hle
      have e : pL [a] = pM a + 0 := rfl
      rw [e] at hle
      exact ⟨cnB_of (t := a) (by omega) (by omega) g1, .inr (by show pM a = pM a + 0; omega)⟩
  · rename_i hl
    have ep : pM (kdX 0 (flK 0 l)) = 1 + pL (flK 0 l) := by rw [pM_eq]; rfl
    have ed : dM (kdX 0 (flK 0 l)) = dL (flK 0 l) + 0 := by rw [dM_eq]; rfl
    refine ⟨cnB_of (by omega) (by omega) ?_, .inl ep⟩
    rw [okM_eq]
    show (mfB 0 ⟨#[]⟩ false [] 0 0 false && mkB 0 (flK 0 l) && okL (flK 0 l)) = true
    have e1 : mfB 0 ⟨#[]⟩ false [] 0 0 false = true := by decide
    have e2 : mkB 0 (flK 0 l) = true := by
      unfold mkB
      rw [if_pos rfl]
      simp only [Bool.and_eq_true, Bool.not_eq_true', decide_eq_false_iff_not, List.all_eq_true]
      refine ⟨hl, fun x hx => ?_⟩
      have h1 := (hg x hx).2.2.1
      have h2 := (hg x hx).2.2.2 rfl hk
      unfold seqkB
      simp [h1, h2]
    rw [e1, e2, okL_all.2 (fun x hx => (hg x hx).1)]; rfl
theorem tot_take (l : List ByteArray) (k : Nat) (h : k < l.length) : tot (l.take (k + 1)) = tot (l.take k) + l[k].size := by
  induction l generalizing k with
  | nil => simp at h
  | cons a r ih =>
    cases k with
    | zero => simp [tot]
    | succ k =>
      rw [List.take_succ_cons, List.take_succ_cons, tot, tot, ih k (by simpa using h)]
      simp only [List.getElem_cons_succ]; omega
theorem tot_le_all (l : List ByteArray) (k : Nat) : tot (l.take k) ≤ tot l := by
  induction l generalizing k with
  | nil => simp [tot]
  | cons a r ih =>
    cases k with
    | zero => simp [tot]
    | succ k => rw [List.take_succ_cons, tot, tot]; have := ih k; omega
/-- Trees that may be, not too big. -/
structure Good (n m : Nat) (L : List Rt) : Prop where
  ok : ∀ x ∈ L, okM x = true ∧ dM x ≤ 16
  pm : pL L ≤ n
  sm : sL L ≤ m
theorem Good.snoc {n m a : Nat} {L : List Rt} {t x : Rt} {s : List UInt8} {r : List UInt8} (h : Good n m L) (he : er t = x) (hr : readP s = .ok x r) (ha : s.length = a) : Good (n + 2 * a + 1) (m + 8 * a + 2) (L ++ [t]) := by
  obtain ⟨-, -, -, -, -, v6, v7, -, v9, v10, -⟩ := readP_va hr
  refine ⟨fun y hy => ?_, ?_, ?_⟩
  · rcases List.mem_append.1 hy with hy | hy
    · exact h.ok y hy
    · obtain rfl : y = t := by simpa using hy
      exact ⟨by rw [← okM_er, he]; exact v6, by rw [← dM_er, he]; exact v9⟩
  · have e : pL [t] = pM t + 0 := rfl
    have h2 : pM t = pM x := by rw [← pM_er, he]
    have := h.pm
    rw [pL_app, e]; omega
  · have e : sL [t] = sM t + 0 := rfl
    have h2 : sM t = sM x := by rw [← sM_er, he]
    have := h.sm
    rw [sL_app, e]; omega
theorem sL_map_er (l : List Rt) : sL (l.map er) = sL l := by
  induction l with
  | nil => rfl
  | cons a r ih => rw [List.map_cons, sL, sL, ih, sM_er]
theorem sL_flK_le (k : Int) (l : List Rt) : sL (flK k l) ≤ sL l := by
  induction l with
  | nil => exact Nat.le_refl _
  | cons a r ih =>
    unfold flK at ih ⊢
    rw [List.flatMap_cons, sL_app]
    have e : sL (a :: r) = sM a + sL r := rfl
    rw [e]
    have h1 := sM_eq a
    split
    · rw [sL_map_er]; omega
    · have e : sL [er a] = sM (er a) + 0 := rfl
      rw [e, sM_er]; omega
theorem fr_zero {w : World} {t : Rt} (h : RxAt w t) : Fr 0 t := by
  induction h with
  | mk t hr hk hs ih => exact .mk t (fun x len c e => Nat.zero_le _) (fun x len c e => Nat.zero_le _) (fun x hx => by obtain ⟨i, hi, rfl⟩ := List.mem_iff_getElem.1 hx; exact ih i hi)
theorem cl_alloc_n (W : World) (cs : List Value) (T : TypeId) (n : Nat) (h : W.heap.size = n) : Cl (W.alloc (.cells cs.toArray T)) n cs := h ▸ cl_alloc W cs T
def TrsPost (w : World) (e : Ending) (w' : World) : Prop :=
  ∃ (v : Value) (L : List Rt), e = .returned v ∧ Below w.heap.size w w' ∧ w'.ownsRow w.heap.size 25 8 v L.length (flatX L) ∧ (∀ x ∈ L, RxAt w' x) ∧ L.length ≤ 8 ∧ Good 208 816 L
set_option maxHeartbeats 16000000 in
theorem trees_any (a : Option Addr) (len cap : Nat) (z : List ByteArray) (w : World) (h : IsStrs w a len cap z) (hn : len ≤ 8) (hz : longL 100 (z.take len) = false) : Calls Try.prog 26 #[.slice a len cap] w (TrsPost w) := by
  obtain ⟨i0, hi0, hz0', hz1, hz2⟩ := info_parts info_rx
  have htl := tot_le (z.take len) 100 (by decide) hz
  have hzl : (z.take len).length = len := by have := strs_len h; rw [List.length_take]; omega
  have HS := hide h
  have HTL := hide htl
  have HZL := hide hzl
  have HLEN := hide hn
  unfold TrsPost
  clear h hz htl hzl
  go_enter Try.func26, Try.ntmps26
  go_wp2
  go_loopw [3, 4] (fun s i wr => ∃ (k : Nat) (L : List Rt) (A : Option Addr) (c : Nat), s = .slice A L.length c ∧ i = .int .i64 k ∧ k ≤ len ∧ L.length ≤ k ∧ Hid (wr.ownsRow w.heap.size 25 8 (.slice A L.length c) L.length (flatX L)) ∧ Hid (Below w.heap.size w wr) ∧ Hid (∀ x ∈ L, (RxAt wr x ∧ ∀ g, (Value.slice A L.length c).ownBlock = some g → Off g x) ∧ Fr w.heap.size x) ∧ Hid (Good (2 * tot ((z.take len).take k) + k) (8 * tot ((z.take len).take k) + 2 * k) L)) (fun _ i _ => len - (intOf i).toNat)
  case atStart => exact ⟨0, [], none, 0, rfl, rfl, Nat.zero_le _, Nat.le_refl _, hide ⟨by simp [flatX], .inl ⟨rfl, rfl⟩⟩, hide (bl_refl w), hide (fun x hx => by cases hx), hide ⟨fun x hx => (by cases hx), Nat.zero_le _, Nat.zero_le _⟩⟩
  case round =>
    obtain ⟨k, L, A, c, rfl, rfl, hk, hlk, HROW, HBL, HALL, HG⟩ := hrel
    by_cases hlt : k < len
    · obtain ⟨b, off, ha, h1, h2, h3, hcell⟩ := strs_cell HS.out (by omega)
      have hkz : k < (z.take len).length := by rw [HZL.out]; exact hlt
      obtain ⟨s, hs⟩ : ∃ s, z.getD k ByteArray.empty = s := ⟨_, rfl⟩
      have hse : (z.take len)[k]'hkz = s := by
        have hkz2 : k < z.length := by have := strs_len HS.out; omega
        rw [← hs, List.getElem_take]
        simp [List.getD, hkz2]
      have hcs := cell_later HBL.out (hcell k (by omega))
      rw [hs] at hcs
      subst ha
      have hst : s.size ≤ 100 := by
        have e1 := tot_take (z.take len) k hkz
        have e2 := tot_le_all (z.take len) (k + 1)
        have e3 := HTL.out
        rw [hse] at e1
        omega
      have HTK := hide (show tot ((z.take len).take (k + 1)) = tot ((z.take len).take k) + s.size by rw [tot_take _ k hkz, hse])
      have hbb := World.block_lt_of_cell? _ _ hcs
      have HG9 := hide (show ∀ g, (Value.slice A L.length c).ownBlock = some g → g < wr.heap.size from fun g hg => (HROW.out.lt g hg).2)
      have gl : decide (k < len) = true := decide_eq_true hlt
      have gl' : decide ((k : Int) < (len : Int)) = true := decide_eq_true (by omega)
      have e5 : IntKind.i64.wrap ((k : Int) + 1) = (k : Int) + 1 := by rw [IntKind.wrap_i64]; omega
      have i1 : (0 : Int) ≤ (k : Int) := by omega
      have i2 : (k : Int) < (len : Int) := by omega
      have hsl : s.data.toList.length = s.size := Array.length_toList
      have HSL := hide hsl
      have HLT := hide (And.intro hlt hlk)
      clear hcell h1 h2 hkz hse hs hsl hlk hk hlt
      rcases readP_cases s.data.toList with ⟨n, hn9, hnn⟩ | ⟨x, hx⟩
      · have HR := hide (fun W => rread_any s (by omega) W _ hn9)
        unfold RdPost at HR
        have k0 : (n == 0) = false := by rw [Bool.eq_false_iff]; intro h; have := beq_iff_eq.1 h; omega
        clear hn9 hnn
        go_wp2_with fail
        refine (HR.out _).mono ?_
        rintro e w1 ⟨rfl, hb1⟩
        rw [show rt0.v = .agg #[.int .i64 0, .string ⟨#[]⟩, .bool false, .slice none 0 0, .int .i64 0, .int .i64 0, .bool false, .slice none 0 0] from rfl]
        have HB1 := hide (bl_alloc hb1 (.cells #[.int .i64 0, .string ⟨#[]⟩, .bool false, .slice none 0 0, .int .i64 0, .int .i64 0, .bool false, .slice none 0 0] 25))
        clear hb1
        go_wp2
        refine ⟨?_, by simp [intOf]; have := HLT.out.1; omega⟩
        have HG2 := hide (show Good (2 * tot ((z.take len).take (k + 1)) + (k + 1)) (8 * tot ((z.take len).take (k + 1)) + 2 * (k + 1)) L from ⟨HG.out.ok, by have := HG.out.pm; rw [HTK.out]; omega, by have := HG.out.sm; rw [HTK.out]; omega⟩)
        have HX := hide (show ∀ x ∈ L, (RxAt (w1.alloc (.cells #[.int .i64 0, .string ⟨#[]⟩, .bool false, .slice none 0 0, .int .i64 0, .int .i64 0, .bool false, .slice none 0 0] 25)) x ∧ ∀ g, (Value.slice A L.length c).ownBlock = some g → Off g x) ∧ Fr w.heap.size x from fun x hx => ⟨⟨rx_below (HALL.out x hx).1.1 HB1.out, (HALL.out x hx).1.2⟩, (HALL.out x hx).2⟩)
        first
          | exact ⟨k + 1, L, A, c, rfl, rfl, HLT.out.1, Nat.le_succ_of_le HLT.out.2, hide (own_below HROW.out HB1.out), hide (bl_trans HBL.out HB1.out), HX, HG2⟩
          | exact ⟨k + 1, L, A, c, rfl, by simp, HLT.out.1, Nat.le_succ_of_le HLT.out.2, hide (own_below HROW.out HB1.out), hide (bl_trans HBL.out HB1.out), HX, HG2⟩
      · have HR := hide (fun W => rread_any s (by omega) W _ hx)
        unfold RdPost at HR
        have HX0 := hide hx
        clear hx
        go_wp2_with fail
        refine (HR.out _).mono ?_
        rintro e w1 ⟨t, rfl, hb1, hrx, hfr, her⟩
        obtain ⟨tA, tc, htrv⟩ := rwat_len hrx.rows
        obtain ⟨tB, td, htkv⟩ := ksat_len hrx.ks
        have HTV := hide (show t.v = .agg #[.int .i64 t.k, .string t.ch, .bool t.nt, .slice tA t.rows.length tc, .int .i64 t.mi, .int .i64 t.ma, .bool t.lz, .slice tB t.kids.length td] by unfold Rt.v Rt.cs; rw [htrv, htkv])
        have HCS := hide (show t.cs = [.int .i64 t.k, .string t.ch, .bool t.nt, .slice tA t.rows.length tc, .int .i64 t.mi, .int .i64 t.ma, .bool t.lz, .slice tB t.kids.length td] by unfold Rt.cs; rw [htrv, htkv])
        rw [HTV.out]
        have HRX := hide hrx
        have HER := hide her
        have HFR := hide (hfr.mono HBL.out.size)
        have HOFF := hide (show ∀ g, (Value.slice A L.length c).ownBlock = some g → Off g t from fun g hg => off_fr hfr (HG9.out g hg))
        have HONE := hide (show ∀ u ∈ ([.int .i64 t.k, .string t.ch, .bool t.nt, .slice tA t.rows.length tc, .int .i64 t.mi, .int .i64 t.ma, .bool t.lz, .slice tB t.kids.length td] : List Value), u.oneCell' = true by rw [← HCS.out]; intro u hu; exact one_cellX (w := w1) [t] (fun x hx => by obtain rfl : x = t := (by simpa using hx); exact HRX.out) u (by simpa [flatX] using hu))
        have HBB := hide (bl_alloc (bl_alloc hb1 (.cells #[.int .i64 t.k, .string t.ch, .bool t.nt, .slice tA t.rows.length tc, .int .i64 t.mi, .int .i64 t.ma, .bool t.lz, .slice tB t.kids.length td] 25)) (.cells #[.int .i64 t.k, .string t.ch, .bool t.nt, .slice tA t.rows.length tc, .int .i64 t.mi, .int .i64 t.ma, .bool t.lz, .slice tB t.kids.length td] 25))
        have HBC := hide (bl_alloc (bl_alloc (bl_refl w1) (.cells #[.int .i64 t.k, .string t.ch, .bool t.nt, .slice tA t.rows.length tc, .int .i64 t.mi, .int .i64 t.ma, .bool t.lz, .slice tB t.kids.length td] 25)) (.cells #[.int .i64 t.k, .string t.ch, .bool t.nt, .slice tA t.rows.length tc, .int .i64 t.mi, .int .i64 t.ma, .bool t.lz, .slice tB t.kids.length td] 25))
        have HALL3 := hide (show ∀ W, Below wr.heap.size wr W → ∀ x ∈ L, (RxAt W x ∧ ∀ g, (Value.slice A L.length c).ownBlock = some g → Off g x) ∧ Fr w.heap.size x from fun W hW x hx => ⟨⟨rx_below (HALL.out x hx).1.1 hW, (HALL.out x hx).1.2⟩, (HALL.out x hx).2⟩)
        have hL8 : L.length ≤ 8 := Nat.le_trans HLT.out.2 (Nat.le_trans (Nat.le_of_lt HLT.out.1) HLEN.out)
        clear hb1 hrx hfr her htrv htkv
        go_wp2_with (at_builtin; go_must (refine wpList_src5 _ rfl _ _ 23 rfl w.heap.size 25 i0 rt0.v 8 104 Try.underlying23 hi0 hz0' hz1 hz2 rfl (by decide) (.slice A L.length c) L.length (flatX L) rfl (own_below HROW.out HBB.out) (some ⟨_, 0, none⟩) 1 1 [.int .i64 t.k, .string t.ch, .bool t.nt, .slice tA t.rows.length tc, .int .i64 t.mi, .int .i64 t.ma, .bool t.lz, .slice tB t.kids.length td] rfl (src_block (cs := #[.int .i64 t.k, .string t.ch, .bool t.nt, .slice tA t.rows.length tc, .int .i64 t.mi, .int .i64 t.ma, .bool t.lz, .slice tB t.kids.length td]) (heap_new (by simp)) rfl) HONE.out (by omega) (by decide) (Nat.le_trans HBL.out.size HBB.out.size) ?_); intro v' w19 hv4 hg4 h5)
        rw [← HCS.out] at hv4
        obtain ⟨B, d9, rfl, hown4, hall4⟩ := row_step (HALL3.out _ HBB.out) (rx_below HRX.out HBC.out) HFR.out HOFF.out hv4 hg4 h5
        have HROW4 := hide hown4
        have HALL4 := hide hall4
        have HB4 := hide (bl_own (bl_trans HBL.out HBB.out) (own_below HROW.out HBB.out) hg4 (Nat.le_refl _))
        have HLN := hide (show Value.slice B (L.length + 1) d9 = .slice B (L ++ [t]).length d9 by rw [List.length_append] <;> rfl)
        have HLL := hide (show (L ++ [t]).length ≤ k + 1 by rw [List.length_append]; have := HLT.out.2; simp only [List.length_cons, List.length_nil]; omega)
        have HG2 := hide (show Good (2 * tot ((z.take len).take (k + 1)) + (k + 1)) (8 * tot ((z.take len).take (k + 1)) + 2 * (k + 1)) (L ++ [t]) from by
          have g := HG.out.snoc HER.out HX0.out HSL.out
          exact ⟨g.ok, by have := g.pm; rw [HTK.out]; omega, by have := g.sm; rw [HTK.out]; omega⟩)
        clear hv4 hg4 h5 hown4 hall4
        go_wp2
        refine ⟨?_, by simp [intOf]; have := HLT.out.1; omega⟩
        first
          | exact ⟨k + 1, L ++ [t], B, d9, HLN.out, rfl, HLT.out.1, HLL.out, HROW4, HB4, HALL4, HG2⟩
          | exact ⟨k + 1, L ++ [t], B, d9, HLN.out, by simp, HLT.out.1, HLL.out, HROW4, HB4, HALL4, HG2⟩
    · obtain rfl : k = len := by omega
      have gl : decide (k < k) = false := decide_eq_false (Nat.lt_irrefl k)
      have gl' : decide ((k : Int) < (k : Int)) = false := decide_eq_false (by omega)
      have HEND := hide (show L.length ≤ 8 ∧ Good 208 816 L from ⟨by have := HLEN.out; omega, by
        have h1 := HG.out
        have h2 := HTL.out
        have h3 := tot_le_all (z.take k) k
        have h4 := HLEN.out
        exact ⟨h1.ok, by have := h1.pm; omega, by have := h1.sm; omega⟩⟩)
      clear hlk hk hlt
      go_wp2
      go_ret
      exact ⟨_, L, rfl, HBL.out, HROW.out, fun x hx => (HALL.out x hx).1.1, HEND.out.1, HEND.out.2⟩
end Go.Proofs.Ytmfaeonlmfejdaa
