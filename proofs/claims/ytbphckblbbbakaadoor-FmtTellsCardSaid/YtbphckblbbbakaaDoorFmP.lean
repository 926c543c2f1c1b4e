/- Contract: what a format makes (fmts.Apply). Condition: texts that are not too long. -/
import Derived.Test.YtbphckblbbbakaaDoorFmN
import Derived.Test.YtbphckblbbbakaaDoorFmO
import Derived.Test.YtbphckblbbbakaaDoorBuilder
namespace Go.Proofs.YtbphckblbbbakaaDoor
open Go.ChangeShapes Go.WideShapes Go.ChangeAt Go.RowKit
attribute [local go_sem ↓] Go.wp_at_zero Go.wp_at_succ
set_option maxRecDepth 100000
set_option linter.unusedVariables false
theorem byteCells_str (l : List UInt8) (s : ByteArray) : Lib.byteCells (l ++ s.data.toList) = Lib.byteCells l ++ Lib.strCells s := by simp [Lib.byteCells, Lib.strCells]
theorem bat_below {T e : TypeId} {B b : Nat} {p : Value} {bs : List Value} {w w' : World} (h : Lib.BuilderAt T e B b p bs w) (hb : Below w.heap.size w w') : Lib.BuilderAt T e B b p bs w' := by
  obtain ⟨h1, q, h2, h3, h4⟩ := h
  exact ⟨h1, q, (hb.block _ (Array.getElem?_eq_some_iff.1 h2).1).trans h2, own_below h3 hb, h4⟩
theorem isb_below {T e : TypeId} {B b : Nat} {bs : List Value} {w w' : World} (h : Lib.IsBuilder T e B b bs w) (hb : Below w.heap.size w w') : Lib.IsBuilder T e B b bs w' :=
  h.elim (fun h => .inl (bat_below h hb)) (fun h => .inr (bat_below h hb))
/-- The slice of texts reads as ps. -/
def SrAt (w : World) (v : Value) (ps : List ByteArray) : Prop := ∃ a c, v = .slice a ps.length c ∧ ps.length ≤ c ∧ c ≤ maxLen ∧ ∀ i (h : i < ps.length), ∃ b o, a = some ⟨b, o, none⟩ ∧ w.cell? ⟨b, o + i, none⟩ = some (.string ps[i])
theorem srat_below {w w' : World} {v : Value} {ps : List ByteArray} (h : SrAt w v ps) (hb : Below w.heap.size w w') : SrAt w' v ps := by
  obtain ⟨a, c, rfl, h1, h2, h3⟩ := h
  exact ⟨a, c, rfl, h1, h2, fun i hi => by obtain ⟨b, o, q1, q2⟩ := h3 i hi; exact ⟨b, o, q1, cell_later hb q2⟩⟩
/-- What a number has. -/
def ptF (ps : List ByteArray) (n : Int) : ByteArray := if n < ps.length then ps[n.toNat]! else ⟨#[]⟩
def mkF (ps : List ByteArray) (d : Fm) : ByteArray := apF1 d (ptF ps d.n)
def mkL (ps : List ByteArray) (l : List Fm) : List UInt8 := l.flatMap fun d => (mkF ps d).data.toList
theorem mkL_snoc (ps : List ByteArray) (l : List Fm) (k : Nat) (h : k < l.length) : mkL ps (l.take (k + 1)) = mkL ps (l.take k) ++ (mkF ps l[k]).data.toList := by
  unfold mkL
  rw [List.take_succ_eq_append_getElem h, List.flatMap_append]; simp
theorem may_n {l : List Fm} (h : mayL l = true) (k : Nat) (hk : k < l.length) : 0 ≤ l[k].n := by
  have h1 := List.all_eq_true.1 h k (List.mem_range.2 hk)
  unfold okF at h1
  rw [getElem!_pos l k hk, Bool.and_eq_true] at h1
  have h2 := h1.1
  unfold mayF at h2
  split at h2
  · cases h2
  · omega
set_option maxHeartbeats 8000000 in
theorem fapplyL_any (v u : Value) (l : List Fm) (ps : List ByteArray) (w : World) (h : FmAt w v l) (hp : SrAt w u ps) (hl : l.length ≤ 1000) (hpl : ps.length ≤ 1000) (hps : ∀ n, (ptF ps n).size ≤ 1000) (hsz : ∀ d ∈ l, (mkF ps d).size ≤ 1000000) :
    Calls Tryd.prog 13 #[v, u] w fun e w' => e = .returned (.string ⟨(if mayL l = true then mkL ps l else []).toArray⟩) ∧ Below w.heap.size w w' := by
  obtain ⟨vA, vc, rfl⟩ := fmat_len h
  obtain ⟨uA, uc, rfl, hu1, hu2, hu3⟩ := hp
  have H := hide h
  have HP := hide hu3
  have HM := hide (fmayL_any _ l w h hl)
  clear h hu3
  rcases hm : mayL l with _ | _
  · rw [hm] at HM
    rw [if_neg (by simp)]
    go_enter Tryd.func13, Tryd.ntmps13
    go_wp2_with fail
    refine HM.out.mono ?_
    rintro e w1 ⟨rfl, hb1⟩
    go_wp2
    go_ret
    exact ⟨rfl, hb1⟩
  rw [hm] at HM
  rw [if_pos rfl]
  have HN := hide (fun k hk => may_n hm k hk)
  have HSZ := hide hsz
  have HPS := hide hps
  clear hm hsz hps
  go_enter Tryd.func13, Tryd.ntmps13
  go_wp2_with fail
  refine HM.out.mono ?_
  rintro e w1 ⟨rfl, hb1⟩
  have h0 := Lib.fresh_isBuilder 45 5 w1
  have HB1 := hide hb1
  clear hb1 HM
  go_wp2
  go_loopw [14] (fun i wr => ∃ (k : Nat) (out : List UInt8), i = .int .i64 k ∧ k ≤ l.length ∧ out.length ≤ 1000000 * k ∧ Hid (mkL ps (l.take k) = out) ∧ Lib.IsBuilder 45 5 w1.heap.size w1.heap.size (Lib.byteCells out) wr ∧ Hid (Below w1.heap.size w1 wr)) (fun i _ => l.length - (intOf i).toNat)
  case atStart => exact ⟨0, [], rfl, Nat.zero_le _, Nat.le_refl _, hide rfl, h0, hide (bl_alloc (bl_refl w1) _)⟩
  case round =>
    clear h0
    obtain ⟨k, out, rfl, hk, ho, HJ, hB, HBL⟩ := hrel
    by_cases hlt : k < l.length
    · obtain ⟨b1, o1, c1, hv1, hc1, hm1, hlb1, hcell⟩ := fmat_some (fmat_below (fmat_below H.out HB1.out) HBL.out) (by omega)
      injection hv1 with hv1 _ hv1c
      subst hv1 hv1c
      unfold maxLen at hm1
      obtain ⟨x0, x1, x2, x3, x4⟩ := hcell k hlt
      have hn0 := HN.out k hlt
      have hsn := mkL_snoc ps l k hlt
      have hs1 := HSZ.out l[k] (List.getElem_mem hlt)
      have hps1 := HPS.out l[k].n
      clear hcell
      obtain ⟨d, hd⟩ : ∃ d, l[k] = d := ⟨_, rfl⟩
      rw [hd] at x0 x1 x2 x3 x4 hn0 hsn hs1 hps1
      rw [HJ.out] at hsn
      obtain ⟨dk, dn, dc, dt, de⟩ := d
      dsimp only at x0 x1 x2 x3 x4 hn0 hps1
      obtain ⟨p, hp⟩ : ∃ p, ptF ps dn = p := ⟨_, rfl⟩
      obtain ⟨q, hq⟩ : ∃ q, mkF ps ⟨dk, dn, dc, dt, de⟩ = q := ⟨_, rfl⟩
      have hq2 : apF1 ⟨dk, dn, dc, dt, de⟩ p = q := by rw [← hq, ← hp]; rfl
      rw [hq] at hsn hs1
      rw [hp] at hps1
      have HAP := hide (fun W => fapply_any ⟨dk, dn, dc, dt, de⟩ p W hps1)
      unfold agF at HAP
      rw [hq2] at HAP
      dsimp only at HAP
      have HSN := hide hsn
      have gl : decide (k < l.length) = true := decide_eq_true hlt
      have hba := bl_alloc (bl_refl wr) (.cells #[.int .i64 dk, .int .i64 dn, .int .i64 dc, .string dt, .string de] 41)
      have hbs := HBL.out.size
      clear hd hsn hq hq2
      by_cases hin : dn < ps.length
      · obtain ⟨n, rfl⟩ : ∃ n : Nat, dn = n := ⟨dn.toNat, by omega⟩
        have hn : n < ps.length := by omega
        obtain ⟨b2, o2, ha2, hc2⟩ := HP.out n hn
        subst ha2
        have hpn : ps[n] = p := by rw [← hp]; unfold ptF; rw [if_pos hin]; simp [hn]
        rw [hpn] at hc2
        have y := cell_later hba (cell_later HBL.out (cell_later HB1.out hc2))
        have g1 : decide ((n : Int) < (ps.length : Int)) = true := decide_eq_true hin
        have g1' : decide (n < ps.length) = true := decide_eq_true hn
        clear hc2 hpn hp hin
        have f1 : (wr.alloc (.cells #[.int .i64 dk, .int .i64 n, .int .i64 dc, .string dt, .string de] 41)).cell? ⟨wr.heap.size, 1, none⟩ = some (.int .i64 n) := cells_lit wr _ _ 1 _ rfl
        go_wp2_with fail
        refine (HAP.out _).mono ?_
        rintro e w2 ⟨rfl, hb2⟩
        have hbw := bl_trans HBL.out (bl_trans hba hb2)
        have hB2 := isb_below hB (bl_trans hba hb2)
        clear hba hb2 hB f1 x0 x1 x2 x3 x4
        go_wp2_with fail
        refine (bl_str _ _ _ q _ hB2 (by rw [byteCells_len]; omega) hbw.size).mono ?_
        rintro e w3 ⟨rfl, hB3, hb3⟩
        rw [← byteCells_str] at hB3
        have HB4 := hide (hbw.trans hb3)
        have hl2 : (out ++ q.data.toList).length ≤ 1000000 * (k + 1) := by rw [List.length_append, len_data]; omega
        clear hbw hb3 hB2
        go_wp2
        refine ⟨?_, by first | (simp [intOf]; done) | (simp [intOf]; omega)⟩
        first
          | exact ⟨k + 1, out ++ q.data.toList, by go_num, by omega, hl2, HSN, .inr hB3, HB4⟩
          | ((repeat apply Exists.intro); exact ⟨⟨k + 1, out ++ q.data.toList, by go_num, by omega, hl2, HSN, .inr hB3, HB4⟩, rfl⟩)
      · have g1 : decide (dn < (ps.length : Int)) = false := decide_eq_false hin
        obtain rfl : p = ⟨#[]⟩ := by rw [← hp]; unfold ptF; rw [if_neg hin]
        clear hp hin
        have f1 : (wr.alloc (.cells #[.int .i64 dk, .int .i64 dn, .int .i64 dc, .string dt, .string de] 41)).cell? ⟨wr.heap.size, 1, none⟩ = some (.int .i64 dn) := cells_lit wr _ _ 1 _ rfl
        go_wp2_with fail
        refine (HAP.out _).mono ?_
        rintro e w2 ⟨rfl, hb2⟩
        have hbw := bl_trans HBL.out (bl_trans hba hb2)
        have hB2 := isb_below hB (bl_trans hba hb2)
        clear hba hb2 hB f1 x0 x1 x2 x3 x4
        go_wp2_with fail
        refine (bl_str _ _ _ q _ hB2 (by rw [byteCells_len]; omega) hbw.size).mono ?_
        rintro e w3 ⟨rfl, hB3, hb3⟩
        rw [← byteCells_str] at hB3
        have HB4 := hide (hbw.trans hb3)
        have hl2 : (out ++ q.data.toList).length ≤ 1000000 * (k + 1) := by rw [List.length_append, len_data]; omega
        clear hbw hb3 hB2
        go_wp2
        refine ⟨?_, by first | (simp [intOf]; done) | (simp [intOf]; omega)⟩
        first
          | exact ⟨k + 1, out ++ q.data.toList, by go_num, by omega, hl2, HSN, .inr hB3, HB4⟩
          | ((repeat apply Exists.intro); exact ⟨⟨k + 1, out ++ q.data.toList, by go_num, by omega, hl2, HSN, .inr hB3, HB4⟩, rfl⟩)
    · obtain rfl : k = l.length := by omega
      have hj := HJ.out
      rw [List.take_length] at hj
      have HE := hide hj
      have gl : decide (l.length < l.length) = false := by simp
      clear hj HJ hlt
      go_wp2_with fail
      refine (bl_string _ _ _ _ hB HBL.out.size).mono ?_
      rintro e w2 ⟨rfl, hb2⟩
      have HB5 := hide (bl_trans HB1.out (HBL.out.trans hb2))
      clear hb2
      go_wp2
      go_ret
      exact ⟨by rw [HE.out]; rfl, HB5.out⟩
end Go.Proofs.YtbphckblbbbakaaDoor
