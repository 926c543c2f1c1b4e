/- Contract of package marks at a table: Move. Conditions: few records whose ids rise, few edits, modest numbers. -/
import Derived.Test.YtjmoeahlbgdkbaaTabH
import Derived.Test.YtjmoeahlbgdkbaaEdW
import Derived.BigRegion
namespace Go.Proofs.Ytjmoeahlbgdkbaa
open Go.ChangeShapes Go.WideShapes Go.ChangeAt Go.RowKit
open SpanM EdM
attribute [local go_sem ↓] Go.wp_at_zero Go.wp_at_succ
set_option maxRecDepth 100000
/-- A record moved, in a table in which its parent is looked up. -/
def mvOne (es : List Ed) (L : List Mk) (r : Mk) : Mk :=
  match L.find? (fun q => q.id == r.p) with
  | none => { r with f := min (mvR r.b es r.f) (mvR r.c es r.t), t := mvR r.c es r.t }
  | some q => { r with f := min (max (min (mvR r.b es r.f) (mvR r.c es r.t)) q.f) q.t, t := min (max (mvR r.c es r.t) q.f) q.t }
def mvTo (es : List Ed) (l : List Mk) : Nat → List Mk
  | 0 => l
  | k + 1 => (mvTo es l k).modify k (mvOne es (mvTo es l k))
def mvAll (es : List Ed) (l : List Mk) : List Mk := mvTo es l l.length
theorem mvOne_id (es : List Ed) (L : List Mk) (r : Mk) : (mvOne es L r).id = r.id := by unfold mvOne; split <;> rfl
theorem mvTo_len (es : List Ed) (l : List Mk) (k : Nat) : (mvTo es l k).length = l.length := by
  induction k with
  | zero => rfl
  | succ k ih => unfold mvTo; rw [List.length_modify, ih]
theorem modify_ids (l : List Mk) (k : Nat) (f : Mk → Mk) (hf : ∀ r, (f r).id = r.id) : (l.modify k f).map (·.id) = l.map (·.id) := by
  apply List.ext_getElem
  · simp
  · intro i h1 h2
    simp only [List.getElem_map, List.getElem_modify]
    split <;> simp [hf]
theorem mvTo_ids (es : List Ed) (l : List Mk) (k : Nat) : (mvTo es l k).map (·.id) = l.map (·.id) := by
  induction k with
  | zero => rfl
  | succ k ih => unfold mvTo; rw [modify_ids _ _ _ (mvOne_id _ _), ih]
theorem rise_ids {l k : List Mk} (h : RiseM l) (e : k.map (·.id) = l.map (·.id)) : RiseM k := by
  unfold RiseM at *
  have h1 : (l.map (·.id)).Pairwise (· < ·) := List.pairwise_map.2 h
  rw [← e] at h1
  exact List.pairwise_map.1 h1
theorem mvTo_at (es : List Ed) (l : List Mk) (k i : Nat) (hi : i < l.length) (hk : k ≤ i) : (mvTo es l k)[i]'(by rw [mvTo_len]; exact hi) = l[i] := by
  induction k with
  | zero => rfl
  | succ k ih =>
    unfold mvTo
    rw [List.getElem_modify, if_neg (by omega)]
    exact ih (by omega)
/-- A row of edits of the call's own, in a block of its own: it stays while another block is written. -/
theorem ed_set {w : World} {base n g : Nat} {v : Value} {xs : List Value} (h : w.ownsRow base 61 3 v n xs) (hg : g < base) (o : Nat) (u : Value) : (w.setCell ⟨g, o, none⟩ u).ownsRow base 61 3 v n xs :=
  h.kept (grown_set (grown_refl w (some g)) o u) (by
    cases hv : v.ownBlock with
    | none => exact .inl rfl
    | some b => exact .inr (by have := (h.lt b hv).1; intro e; injection e with e; omega))
theorem mv_go (a r : Int) (right : Bool) (v : Value) (l : List Ed) (w : World) (h : EdAt w v l) (hl : l.length ≤ 20) (hg : ∀ e ∈ l, Good e) (ha : -1125899906842624 ≤ a ∧ a ≤ 1125899906842624) (hs : sortE l = l) (hr : mvR right l a = r) :
    Calls Try.prog 51 #[.int .i64 a, .bool right, v] w fun e w' => e = .returned (.int .i64 r) ∧ Below w.heap.size w w' := by
  have := move_any a right v l w h hl hg ha
  rw [hs, hr] at this
  exact this
theorem Tab.rec_at {w : World} {base tb : Nat} {last : Int} {L : List Mk} {g c : Nat} {r : Mk} {k : Nat} (h : Tab w base tb last (.slice (some ⟨g, 0, none⟩) L.length c) L) (hk : ∃ h : k < L.length, L[k] = r) :
    w.cell? ⟨g, k * 6, none⟩ = some (.int .i64 r.id) ∧ w.cell? ⟨g, k * 6 + 1, none⟩ = some (.int .i64 r.f) ∧ w.cell? ⟨g, k * 6 + 2, none⟩ = some (.int .i64 r.t) ∧ w.cell? ⟨g, k * 6 + 3, none⟩ = some (.bool r.b) ∧ w.cell? ⟨g, k * 6 + 4, none⟩ = some (.bool r.c) ∧ w.cell? ⟨g, k * 6 + 5, none⟩ = some (.int .i64 r.p) := by
  obtain ⟨h1, rfl⟩ := hk
  exact h.cell k h1
theorem mod_at {L : List Mk} {k : Nat} {r : Mk} (hk : ∃ h : k < L.length, L[k] = r) (F : Mk → Mk) : ∃ h : k < (L.modify k F).length, (L.modify k F)[k] = F r := by
  obtain ⟨h1, rfl⟩ := hk
  exact ⟨by simpa using h1, by rw [List.getElem_modify, if_pos rfl]⟩
theorem mod_eq {L : List Mk} {k : Nat} {r : Mk} (hk : ∃ h : k < L.length, L[k] = r) {F G : Mk → Mk} (h : F r = G r) : L.modify k F = L.modify k G := by
  obtain ⟨h1, rfl⟩ := hk
  apply List.ext_getElem
  · simp
  · intro i h1 h2
    rw [List.getElem_modify, List.getElem_modify]
    split
    · next e => subst e; exact h
    · rfl
/-- The parent, looked up while a record is being moved. -/
theorem par_at {L : List Mk} (hR : RiseM L) {k : Nat} {r : Mk} (hk : ∃ h : k < L.length, L[k] = r) (F : Mk → Mk) (hF : ∀ r, (F r).id = r.id) (hp : r.p ≠ r.id) {v : Value} {ok : Bool} (hg : GotM (L.modify k F) r.p v ok) :
    (ok = true ∧ ∃ q, L.find? (fun q => q.id == r.p) = some q ∧ v = vR q) ∨ (ok = false ∧ v = zeroR ∧ L.find? (fun q => q.id == r.p) = none) := by
  obtain ⟨h1, hr⟩ := hk
  rcases hg with ⟨h, i, hi, hid, hv⟩ | ⟨h, hv, hno⟩
  · have hi' : i < L.length := by simpa using hi
    by_cases e : k = i
    · subst e
      rw [List.getElem_modify, if_pos rfl, hF, hr] at hid
      exact absurd hid.symm hp
    · rw [List.getElem_modify, if_neg e] at hid hv
      exact .inl ⟨h, L[i], find_at hR r.p i hi' hid, hv⟩
  · refine .inr ⟨h, hv, find_none fun q hq hqi => ?_⟩
    have h2 : q.id ∈ L.map (·.id) := List.mem_map_of_mem hq
    rw [← modify_ids L k F hF] at h2
    obtain ⟨q', hq', e⟩ := List.mem_map.1 h2
    exact hno q' hq' (e.trans hqi)
theorem ed_kept {w w' : World} {base n g : Nat} {v : Value} {xs : List Value} (h : w.ownsRow base 61 3 v n xs) (hb : Below w.heap.size w w') (hg : g < base) (o : Nat) (u : Value) : (w'.setCell ⟨g, o, none⟩ u).ownsRow base 61 3 v n xs := ed_set (own_below h hb) hg o u
def MvInv (es : List Ed) (l : List Mk) (base tb : Nat) (last : Int) (v vE : Value) (w : World) (i : Value) (wr : World) : Prop :=
  ∃ k : Nat, i = .int .i64 k ∧ k ≤ l.length ∧ Tab wr base tb last v (mvTo es l k) ∧ wr.ownsRow w.heap.size 61 3 vE es.length (flatE es) ∧ Below base w wr ∧ w.heap.size ≤ wr.heap.size
set_option maxHeartbeats 8000000 in
theorem tmove_any (base tb : Nat) (last : Int) (v vA : Value) (l : List Mk) (ed : List Ed) (w : World) (h : Tab w base tb last v l) (hs : RiseM l) (hl : l.length ≤ 100000) (hB : base ≤ w.heap.size) (he : EdAt w vA ed) (hed : ed.length ≤ 20) (hg : ∀ e ∈ ed, Good e) (hm : mayN ed = 0)
    (hp : ∀ r ∈ l, r.p ≠ r.id ∧ (-1099511627776 ≤ r.f ∧ r.f ≤ 1099511627776) ∧ (-1099511627776 ≤ r.t ∧ r.t ≤ 1099511627776)) :
    Calls Try.prog 28 #[.pointer (some ⟨tb, 0, none⟩), vA] w fun e w' => e = .returned (.int .i64 0) ∧ Tab w' base tb last v (mvAll (sortE ed) l) ∧ Below base w w' := by
  have HM := hide (maym_any vA ed w he (by omega))
  rw [hm] at HM
  have HE := hide he
  have H := hide h
  have HS := hide hs
  have HP := hide hp
  have HG : Hid (∀ e ∈ sortE ed, Good e) := hide (fun e he => hg e ((sortE_perm ed).mem_iff.1 he))
  have hsl := sortE_len ed
  have HSS := hide (sortE_self (sortE ed) (sortE_sorted ed))
  clear h hs he hp hg hm
  obtain ⟨vv, hvv⟩ : ∃ vv, vv = mvAll (sortE ed) l := ⟨_, rfl⟩
  rw [← hvv]
  unfold mvAll at hvv
  have HVV := hide hvv
  clear hvv
  go_enter Try.func28, Try.ntmps28
  go_wp2_with fail
  refine HM.out.mono ?_
  rintro e w1 ⟨rfl, hb1⟩
  have HE1 := hide (edat_below HE.out hb1)
  go_wp2_with fail
  refine (sortE_any _ ed _ HE1.out hed).mono ?_
  rintro e w2 ⟨vE, rfl, hb2, ho2⟩
  have hb12 := bl_trans hb1 hb2
  have H2 := hide (H.out.later hb12)
  obtain ⟨d0, d1, _, _⟩ := cells2 H2.out.at0
  have HO2 := hide (own_base ho2 hb1.size)
  rw [← hsl] at HO2
  generalize sortE ed = es at *
  have HFI : Hid (∀ {v : Value} (W : World), Tab W base tb last v (mvTo es l l.length) → Tab W base tb last v vv) := hide (fun W h => by rw [HVV.out]; exact h)
  have hbB := hb12.mono hB
  obtain ⟨aE, cE, rfl⟩ := own_slice HO2.out
  rcases H2.out.form with ⟨rfl, rfl⟩ | ⟨g, c, rfl, hg1, hg2, hg3, hg4, hg5⟩
  · go_wp2
    refine wp_loop_rounds 1 ?_
    rw [rounds_succ]
    go_wp2
    go_ret
    exact ⟨rfl, HFI.out _ H2.out, hbB⟩
  unfold maxLen at hg4
  have hgw : g < w.heap.size := by
    rcases H.out.form with ⟨hv, _⟩ | ⟨g', c', hv, _, hgg, _⟩
    · cases hv
    · cases hv; exact hgg
  clear d0 HE1 HE HM ho2 hb1 hb2
  go_wp2
  go_loopw [24] (fun i wr => MvInv es l base tb last (.slice (some ⟨g, 0, none⟩) l.length c) (.slice aE es.length cE) w i wr) (fun i _ => l.length - (intOf i).toNat)
  case atStart => exact ⟨0, rfl, Nat.zero_le _, H2.out, HO2.out, hbB, hb12.size⟩
  case round =>
    obtain ⟨k, rfl, hk, hT, hO, hbb, hsz⟩ := hrel
    by_cases hlt : k < l.length
    · have hlen := mvTo_len es l k
      have hlk := mvTo_at es l k k hlt (Nat.le_refl _)
      have hPk := HP.out l[k] (List.getElem_mem hlt)
      have hRI := hide (rise_ids HS.out (mvTo_ids es l k))
      have hstep : ∀ L, mvTo es l k = L → mvTo es l (k + 1) = L.modify k (mvOne es L) := fun L h => by subst h; rfl
      have HSTEP := hide (hstep _ rfl)
      have hT' := hT
      rw [← hlen] at hT'
      obtain ⟨x0, x1, x2, x3, x4, x5⟩ := hT'.cell k (by omega)
      obtain ⟨d0, d1, _, _⟩ := cells2 hT.at0
      have fz := hT'.frozen
      rw [hlk] at x0 x1 x2 x3 x4 x5
      have HLK := hide (show ∃ h : k < (mvTo es l k).length, (mvTo es l k)[k] = l[k] from ⟨by omega, hlk⟩)
      clear hlk
      generalize l[k] = r at *
      obtain ⟨id, f, t, rb, rc, p⟩ := r
      simp only at x0 x1 x2 x3 x4 x5 hPk
      obtain ⟨hpi, hfb, htb⟩ := hPk
      generalize mvTo es l k = L at *
      have HT := hide hT'
      have HO := hide hO
      clear hT hT' hO hstep
      obtain ⟨f1, hf1⟩ : ∃ f1, mvR rb es f = f1 := ⟨_, rfl⟩
      obtain ⟨t1, ht1⟩ : ∃ t1, mvR rc es t = t1 := ⟨_, rfl⟩
      have HF1 := hide hf1
      have HT1 := hide ht1
      clear hf1 ht1
      have HED := hide (show EdAt wr (.slice aE ed.length cE) es from hsl ▸ own_edat HO.out)
      go_wp2
      go_region_with (go_at_call 51; refine (mv_go f f1 rb _ es _ (edat_below HED.out (bl_drew (bl_refl wr))) (by omega) HG.out ⟨by omega, by omega⟩ HSS.out HF1.out).mono ?_; rintro e w3 ⟨rfl, hb3⟩; have y1 := cell_later hb3 (show wr.drew.cell? ⟨g, k * 6 + 1, none⟩ = some (.int .i64 f) from x1); have z1 : w3.frozen? ⟨g, k * 6 + 1, none⟩ = false := ((HT.out.later (bl_drew (bl_refl wr))).later hb3).frozen _)
      all_goals
        have hwB : base ≤ wr.heap.size := by omega
        have T4 := ((HT.out.later (bl_drew (bl_refl wr))).later hb3).put k 1 (by omega) (.int .i64 f1) (fun r => { r with f := f1 }) (fun r => rfl)
        have K4 := mod_at HLK.out (fun r => { r with f := f1 })
        have O4 := ed_kept (own_below HO.out (bl_drew (bl_refl wr))) hb3 hgw (k * 6 + 1) (.int .i64 f1)
        have B4 : Below base w (w3.setCell ⟨g, k * 6 + 1, none⟩ (.int .i64 f1)) := (hbb.drew.trans (hb3.mono hwB)).setCell (p := ⟨g, k * 6 + 1, none⟩) hg1 _
        have S4 : w.heap.size ≤ (w3.setCell ⟨g, k * 6 + 1, none⟩ (.int .i64 f1)).heap.size := Nat.le_trans hsz (by simpa [World.setCell] using hb3.size)
        obtain ⟨w4, hw4⟩ : ∃ w4, w3.setCell ⟨g, k * 6 + 1, none⟩ (.int .i64 f1) = w4 := ⟨_, rfl⟩
        rw [hw4] at T4 O4 B4 S4 ⊢
        clear hw4 x0 x1 x2 x3 x4 x5 y1 z1 d0 d1 fz hb3 w3
        obtain ⟨x0, x1, x2, x3, x4, x5⟩ := T4.rec_at K4
        simp only at x0 x1 x2 x3 x4 x5
        have HED4 := hide (show EdAt w4 (.slice aE ed.length cE) es from hsl ▸ own_edat O4)
        have HT4 := hide T4
        have HK4 := hide K4
        have HO4 := hide O4
        clear T4 K4 O4
        go_wp2
        go_region_with (go_at_call 51; refine (mv_go t t1 rc _ es _ (edat_below HED4.out (bl_drew (bl_refl w4))) (by omega) HG.out ⟨by omega, by omega⟩ HSS.out HT1.out).mono ?_; rintro e w5 ⟨rfl, hb5⟩; have y2 := cell_later hb5 (show w4.drew.cell? ⟨g, k * 6 + 2, none⟩ = some (.int .i64 t) from x2); have z2 : w5.frozen? ⟨g, k * 6 + 2, none⟩ = false := ((HT4.out.later (bl_drew (bl_refl w4))).later hb5).frozen _)
        all_goals
          have hwB4 : base ≤ w4.heap.size := by omega
          have T6 := ((HT4.out.later (bl_drew (bl_refl w4))).later hb5).put k 2 (by omega) (.int .i64 t1) (fun r => { r with t := t1 }) (fun r => rfl)
          have K6 := mod_at HK4.out (fun r => { r with t := t1 })
          have O6 := ed_kept (own_below HO4.out (bl_drew (bl_refl w4))) hb5 hgw (k * 6 + 2) (.int .i64 t1)
          have B6 : Below base w (w5.setCell ⟨g, k * 6 + 2, none⟩ (.int .i64 t1)) := (B4.drew.trans (hb5.mono hwB4)).setCell (p := ⟨g, k * 6 + 2, none⟩) hg1 _
          have S6 : w.heap.size ≤ (w5.setCell ⟨g, k * 6 + 2, none⟩ (.int .i64 t1)).heap.size := Nat.le_trans S4 (by simpa [World.setCell] using hb5.size)
          obtain ⟨w6, hw6⟩ : ∃ w6, w5.setCell ⟨g, k * 6 + 2, none⟩ (.int .i64 t1) = w6 := ⟨_, rfl⟩
          have hw6' : w5.setCell ⟨g, k * 6 + 1 + 1, none⟩ (.int .i64 t1) = w6 := hw6
          rw [hw6] at T6 O6 B6 S6
          rw [hw6']
          clear hw6 hw6' x0 x1 x2 x3 x4 x5 y2 z2 hb5 w5
          obtain ⟨x0, x1, x2, x3, x4, x5⟩ := T6.rec_at K6
          simp only at x0 x1 x2 x3 x4 x5
          have fz6 := T6.frozen (k * 6 + 1)
          have fz7 := T6.frozen (k * 6 + 2)
          have HT6 := hide T6
          have HK6 := hide K6
          have HO6 := hide O6
          clear T6 K6 O6
          go_wp2
          go_region
          all_goals as_aux_lemma =>
            have hbd : Below w6.heap.size w6 w6.drew := bl_drew (bl_refl w6)
            have T7 := (HT6.out.put k 1 (by omega) (.int .i64 (min f1 t1)) (fun r => { r with f := min f1 t1 }) (fun r => rfl)).later (bl_drew (bl_refl _))
            have O7 := own_below (ed_set HO6.out hgw (k * 6 + 1) (.int .i64 (min f1 t1))) (bl_drew (bl_refl _))
            have B7 : Below base w (w6.setCell ⟨g, k * 6 + 1, none⟩ (.int .i64 (min f1 t1))).drew := (B6.setCell (p := ⟨g, k * 6 + 1, none⟩) hg1 _).drew
            have S7 : w.heap.size ≤ (w6.setCell ⟨g, k * 6 + 1, none⟩ (.int .i64 (min f1 t1))).drew.heap.size := Nat.le_trans S6 (by simp [World.setCell])
            rw [List.modify_modify_eq, List.modify_modify_eq] at T7
            have K7 := mod_at HLK.out (((fun r : Mk => { r with f := min f1 t1 }) ∘ fun r : Mk => { r with t := t1 }) ∘ fun r : Mk => { r with f := f1 })
            have R7 : RiseM (L.modify k (((fun r : Mk => { r with f := min f1 t1 }) ∘ fun r : Mk => { r with t := t1 }) ∘ fun r : Mk => { r with f := f1 })) := rise_ids hRI.out (modify_ids L k _ (fun r => rfl))
            have N7 : (L.modify k (((fun r : Mk => { r with f := min f1 t1 }) ∘ fun r : Mk => { r with t := t1 }) ∘ fun r : Mk => { r with f := f1 })).length = L.length := by simp
            have P7 := fun (v : Value) (ok : Bool) => par_at hRI.out HLK.out (((fun r : Mk => { r with f := min f1 t1 }) ∘ fun r : Mk => { r with t := t1 }) ∘ fun r : Mk => { r with f := f1 }) (fun r => rfl) hpi (v := v) (ok := ok)
            obtain ⟨F, hF⟩ : ∃ F, (((fun r : Mk => { r with f := min f1 t1 }) ∘ fun r : Mk => { r with t := t1 }) ∘ fun r : Mk => { r with f := f1 }) = F := ⟨_, rfl⟩
            have hFr : F ⟨id, f, t, rb, rc, p⟩ = ⟨id, min f1 t1, t1, rb, rc, p⟩ := by rw [← hF]; rfl
            rw [hF] at T7 K7 R7 N7 P7
            rw [hFr] at K7
            obtain ⟨w7, hw7⟩ : ∃ w7, (w6.setCell ⟨g, k * 6 + 1, none⟩ (.int .i64 (min f1 t1))).drew = w7 := ⟨_, rfl⟩
            rw [hw7] at T7 O7 B7 S7 ⊢
            clear hw7 x0 x1 x2 x3 x4 x5 fz6 fz7 hbd hF HED4
            obtain ⟨x0, x1, x2, x3, x4, x5⟩ := T7.rec_at K7
            simp only at x0 x1 x2 x3 x4 x5
            have HG7 := hide (get_any base tb last _ _ p w7 T7 R7 (by omega))
            have HT7 := hide T7
            have HK7 := hide K7
            have HO7 := hide O7
            have HP7 := hide P7
            have HFr := hide hFr
            clear T7 K7 O7 P7 hFr
            go_wp2_with fail
            refine HG7.out.mono ?_
            rintro e w8 ⟨⟨vq, ok, rfl, hgo⟩, hb8⟩
            have hgo' := HP7.out vq ok hgo
            have T8 := HT7.out.later hb8
            have O8 := own_below HO7.out hb8
            have B8 : Below base w w8 := B7.trans (hb8.mono (by omega))
            have S8 : w.heap.size ≤ w8.heap.size := Nat.le_trans S7 hb8.size
            have z8 := cell_later hb8 x1
            clear HG7 hgo HP7
            rcases hgo' with ⟨rfl, q, hq, rfl⟩ | ⟨rfl, rfl, hq⟩
            · obtain ⟨qi, qf, qt, qb, qc, qp⟩ := q
              have hmv : mvOne es L ⟨id, f, t, rb, rc, p⟩ = ⟨id, min (max (min f1 t1) qf) qt, min (max t1 qf) qt, rb, rc, p⟩ := by
                unfold mvOne
                rw [hq]
                simp only [HF1.out, HT1.out]
              have HMV := hide hmv
              obtain ⟨x0, x1, x2, x3, x4, x5⟩ := T8.rec_at HK7.out
              simp only at x0 x1 x2 x3 x4 x5
              have fz8 := T8.frozen (k * 6 + 1)
              have hg8 : g < w8.heap.size := World.block_lt_of_cell? w8 _ x1
              have T10 := ((T8.put k 1 (by omega) (.int .i64 (min (max (min f1 t1) qf) qt)) (fun r => { r with f := min (max (min f1 t1) qf) qt }) (fun r => rfl)).later (bl_alloc (bl_refl _) (.cells #[.int .i64 qf, .int .i64 qt, .bool qb, .bool qc, .int .i64 qp] 43))).later (bl_drew (bl_refl _))
              have O10 := own_below (own_below (ed_set O8 hgw (k * 6 + 1) (.int .i64 (min (max (min f1 t1) qf) qt))) (bl_alloc (bl_refl _) (.cells #[.int .i64 qf, .int .i64 qt, .bool qb, .bool qc, .int .i64 qp] 43))) (bl_drew (bl_refl _))
              have hsc : (w8.setCell ⟨g, k * 6 + 1, none⟩ (.int .i64 (min (max (min f1 t1) qf) qt))).heap.size = w8.heap.size := by simp [World.setCell]
              have B10 : Below base w ((w8.setCell ⟨g, k * 6 + 1, none⟩ (.int .i64 (min (max (min f1 t1) qf) qt))).alloc (.cells #[.int .i64 qf, .int .i64 qt, .bool qb, .bool qc, .int .i64 qp] 43)).drew :=
                ((B8.setCell (p := ⟨g, k * 6 + 1, none⟩) hg1 _).alloc (by rw [hsc]; omega) _).drew
              have S10 : w.heap.size ≤ ((w8.setCell ⟨g, k * 6 + 1, none⟩ (.int .i64 (min (max (min f1 t1) qf) qt))).alloc (.cells #[.int .i64 qf, .int .i64 qt, .bool qb, .bool qc, .int .i64 qp] 43)).drew.heap.size := Nat.le_trans S8 (by simp [World.setCell])
              have bx10 : ((w8.setCell ⟨g, k * 6 + 1, none⟩ (.int .i64 (min (max (min f1 t1) qf) qt))).alloc (.cells #[.int .i64 qf, .int .i64 qt, .bool qb, .bool qc, .int .i64 qp] 43)).drew.heap[w8.heap.size]? = some (.cells #[.int .i64 qf, .int .i64 qt, .bool qb, .bool qc, .int .i64 qp] 43 (0, 0)) := by
                rw [← hsc]; exact heap_alloc_new _ _
              rw [List.modify_modify_eq] at T10
              have K10 := mod_at HLK.out ((fun r : Mk => { r with f := min (max (min f1 t1) qf) qt }) ∘ F)
              have hF10 : ((fun r : Mk => { r with f := min (max (min f1 t1) qf) qt }) ∘ F) ⟨id, f, t, rb, rc, p⟩ = ⟨id, min (max (min f1 t1) qf) qt, t1, rb, rc, p⟩ := by
                show (fun r : Mk => { r with f := min (max (min f1 t1) qf) qt }) (F ⟨id, f, t, rb, rc, p⟩) = _
                rw [HFr.out]
              rw [hF10] at K10
              have HF10 := hide hF10
              have HT10 := hide T10
              have HK10 := hide K10
              have HO10 := hide O10
              have HB10 := hide B10
              have HS10 := hide S10
              have HBX := hide bx10
              clear T8 O8 hq hmv T10 K10 O10 B10 S10 bx10 hF10 hsc
              unfold vR
              go_wp2
              go_region
              as_aux_lemma =>
                obtain ⟨w10, hw10⟩ : ∃ w10, ((w8.setCell ⟨g, k * 6 + 1, none⟩ (.int .i64 (min (max (min f1 t1) qf) qt))).alloc (.cells #[.int .i64 qf, .int .i64 qt, .bool qb, .bool qc, .int .i64 qp] 43)).drew = w10 := ⟨_, rfl⟩
                rw [hw10] at HT10 HO10 HB10 HS10 HBX ⊢
                clear hw10 x0 x1 x2 x3 x4 x5 fz8
                obtain ⟨x0, x1, x2, x3, x4, x5⟩ := HT10.out.rec_at HK10.out
                simp only at x0 x1 x2 x3 x4 x5
                have fz10 := HT10.out.frozen (k * 6 + 2)
                obtain ⟨b0, b1, b2, b3, b4, _⟩ := box5 HBX.out
                go_wp2
                go_region
                as_aux_lemma =>
                  have T12 := (HT10.out.put k 2 (by omega) (.int .i64 (min (max t1 qf) qt)) (fun r => { r with t := min (max t1 qf) qt }) (fun r => rfl)).later (bl_drew (bl_refl _))
                  have O12 := own_below (ed_set HO10.out hgw (k * 6 + 2) (.int .i64 (min (max t1 qf) qt))) (bl_drew (bl_refl _))
                  have B12 : Below base w (w10.setCell ⟨g, k * 6 + 2, none⟩ (.int .i64 (min (max t1 qf) qt))).drew := (HB10.out.setCell (p := ⟨g, k * 6 + 2, none⟩) hg1 _).drew
                  have S12 : w.heap.size ≤ (w10.setCell ⟨g, k * 6 + 2, none⟩ (.int .i64 (min (max t1 qf) qt))).drew.heap.size := Nat.le_trans HS10.out (by simp [World.setCell])
                  have hmv12 : ((fun r : Mk => { r with t := min (max t1 qf) qt }) ∘ (fun r : Mk => { r with f := min (max (min f1 t1) qf) qt }) ∘ F) ⟨id, f, t, rb, rc, p⟩ = mvOne es L ⟨id, f, t, rb, rc, p⟩ := by
                    rw [HMV.out, Function.comp_apply, HF10.out]
                  rw [List.modify_modify_eq, mod_eq HLK.out hmv12, ← HSTEP.out, mvTo_len] at T12
                  have HT12 := hide T12
                  have HO12 := hide O12
                  clear hmv12 T12 O12 x0 x1 x2 x3 x4 x5 fz10 b0 b1 b2 b3 b4
                  go_wp2
                  refine ⟨?_, by first | (simp [intOf]; done) | (simp [intOf]; omega)⟩
                  exact ⟨k + 1, by go_num, by omega, HT12.out, HO12.out, B12, S12⟩
            · have hmv : F ⟨id, f, t, rb, rc, p⟩ = mvOne es L ⟨id, f, t, rb, rc, p⟩ := by
                rw [HFr.out]
                unfold mvOne
                rw [hq]
                simp only [HF1.out, HT1.out]
              rw [mod_eq (G := mvOne es L) HLK.out hmv, ← HSTEP.out, mvTo_len] at T8
              have T9 := T8.later (bl_alloc (bl_refl w8) (.cells #[.int .i64 0, .int .i64 0, .bool false, .bool false, .int .i64 0] 43))
              have O9 := own_below O8 (bl_alloc (bl_refl w8) (.cells #[.int .i64 0, .int .i64 0, .bool false, .bool false, .int .i64 0] 43))
              have B9 : Below base w (w8.alloc (.cells #[.int .i64 0, .int .i64 0, .bool false, .bool false, .int .i64 0] 43)) := B8.alloc (by omega) _
              have S9 : w.heap.size ≤ (w8.alloc (.cells #[.int .i64 0, .int .i64 0, .bool false, .bool false, .int .i64 0] 43)).heap.size := by simp; omega
              have HT9 := hide T9
              have HO9 := hide O9
              clear T8 T9 O8 O9 hq hmv z8
              unfold zeroR
              go_wp2
              refine ⟨?_, by first | (simp [intOf]; done) | (simp [intOf]; omega)⟩
              exact ⟨k + 1, by go_num, by omega, HT9.out, HO9.out, B9, S9⟩
    · obtain rfl : k = l.length := by omega
      have HT := hide hT
      clear hT hO
      go_wp2
      go_ret
      exact ⟨rfl, HFI.out _ HT.out, hbb⟩
end Go.Proofs.Ytjmoeahlbgdkbaa
