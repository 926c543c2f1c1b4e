/- Contracts of the reference's small ones for edits: their stretches, how long a text gets, may they be done; too many or too long; are two lists the same. -/
import Derived.Test.YtbaaciekjpadfaaSpanJ
import Derived.Test.YtbaaciekjpadfaaEdL
namespace Go.Proofs.Ytbaaciekjpadfaa
open Go.ChangeShapes Go.WideShapes Go.ChangeAt Go.RowKit
open SpanM EdM
attribute [local go_sem ↓] Go.wp_at_zero Go.wp_at_succ
attribute [local go_sem] later_cell later_frozen
theorem r5may_any (a : Sp) (n : Int) (r : Bool) (w : World) (hr : mayB a n = r) : Calls Try.prog 50 #[.agg #[.int .i64 a.1, .int .i64 a.2], .int .i64 n] w fun e w' => e = .returned (.bool r) ∧ Below w.heap.size w w' := by
  subst hr
  obtain ⟨f, t⟩ := a
  unfold mayB
  by_cases h1 : 0 ≤ f
  · by_cases h2 : f ≤ t
    · by_cases h3 : t ≤ n
      · have e : decide (0 ≤ f ∧ f ≤ t ∧ t ≤ n) = true := by simp [h1, h2, h3]
        rw [e]
        have d1 : decide (0 ≤ f) = true := by simp [h1]
        have d2 : decide (f ≤ t) = true := by simp [h2]
        have d3 : decide (t ≤ n) = true := by simp [h3]
        go_enter Try.func50, Try.ntmps50
        go_wp2
        go_ret
        exact ⟨by first | rfl | (simp [h1, h2, h3]; done), bl_alloc (bl_refl w) _⟩
      · have e : decide (0 ≤ f ∧ f ≤ t ∧ t ≤ n) = false := by simp [h3]
        rw [e]
        have d1 : decide (0 ≤ f) = true := by simp [h1]
        have d2 : decide (f ≤ t) = true := by simp [h2]
        have d3 : decide (t ≤ n) = false := by simp [h3]
        go_enter Try.func50, Try.ntmps50
        go_wp2
        go_ret
        exact ⟨by first | rfl | (simp [h1, h2, h3]; done), bl_alloc (bl_refl w) _⟩
    · have e : decide (0 ≤ f ∧ f ≤ t ∧ t ≤ n) = false := by simp [h2]
      rw [e]
      have d1 : decide (0 ≤ f) = true := by simp [h1]
      have d2 : decide (f ≤ t) = false := by simp [h2]
      go_enter Try.func50, Try.ntmps50
      go_wp2
      go_ret
      exact ⟨by first | rfl | (simp [h1, h2]; done), bl_alloc (bl_refl w) _⟩
  · have e : decide (0 ≤ f ∧ f ≤ t ∧ t ≤ n) = false := by simp [h1]
    rw [e]
    have d1 : decide (0 ≤ f) = false := by simp [h1]
    go_enter Try.func50, Try.ntmps50
    go_wp2
    go_ret
    exact ⟨by first | rfl | (simp [h1]; done), bl_alloc (bl_refl w) _⟩
def SInvE (l : List Ed) (w : World) (v i : Value) (wr : World) : Prop :=
  ∃ k : Nat, i = .int .i64 k ∧ k ≤ l.length ∧ wr.ownsRow w.heap.size 43 2 v k (flat ((l.take k).map (·.1))) ∧ Below w.heap.size w wr
set_option maxRecDepth 100000 in
set_option maxHeartbeats 4000000 in
theorem r6spans_any (v : Value) (l : List Ed) (w : World) (h : EdAt w v l) (hl : l.length ≤ 1000) :
    Calls Try.prog 51 #[v] w fun e w' => ∃ v', e = .returned v' ∧ Below w.heap.size w w' ∧ w'.ownsRow w.heap.size 43 2 v' l.length (flat (l.map (·.1))) := by
  obtain ⟨i0, hi0, hz0', hz1, hz2⟩ := info_parts info_sp
  obtain ⟨aA, cA, rfl⟩ := edat_len h
  have W0 := hide h
  clear h
  go_enter Try.func51, Try.ntmps51
  go_wp2
  go_loopw [3, 4] (fun v i wr => SInvE l w v i wr) (fun _ i _ => l.length - (intOf i).toNat)
  case atStart => exact ⟨0, rfl, Nat.zero_le _, ⟨rfl, .inl ⟨rfl, rfl⟩⟩, bl_refl w⟩
  case round =>
    obtain ⟨k, rfl, hk, hv, hbl⟩ := hrel
    by_cases hlt : k < l.length
    · obtain ⟨b1, o1, c1, hv1, hc1, hm1, hlb1, hcell1⟩ := edat_some (edat_below W0.out hbl) (by omega)
      injection hv1 with hv1 _ hv1c
      subst hv1 hv1c
      unfold maxLen at hm1
      obtain ⟨x1, x2, x3⟩ := hcell1 k hlt
      clear hcell1
      have fin : ∀ (W : World) (v' : Value), W.ownsRow w.heap.size 43 2 v' (k + 1) (flat ((l.take k).map (·.1)) ++ [.int .i64 l[k].1.1, .int .i64 l[k].1.2]) → Below w.heap.size w W → SInvE l w v' (.int .i64 ((k : Int) + 1)) W := fun W v' ho hb =>
        ⟨k + 1, by go_num, by omega, by
          rw [List.take_succ_eq_append_getElem hlt, List.map_append, flat_app]
          exact ho, hb⟩
      have FIN := hide fin
      clear fin
      generalize l[k] = s at *
      obtain ⟨⟨f, t⟩, x⟩ := s
      have FIN' : Hid (∀ (W : World) (v' : Value), W.ownsRow w.heap.size 43 2 v' (k + 1) (flat ((l.take k).map (·.1)) ++ [.int .i64 f, .int .i64 t]) → Below w.heap.size w W → SInvE l w v' (.int .i64 ((k : Int) + 1)) W) := FIN
      clear FIN
      obtain ⟨aV, cV, rfl⟩ := own_slice hv
      have HV := hide hv
      have hbs := hbl.size
      clear hv
      generalize (l.take k).map (·.1) = O at *
      have hbw : w.heap.size ≤ wr.heap.size := hbs
      go_wp2_with (at_builtin; (refine wpList_push wr rfl _ _ 53 rfl w.heap.size 43 i0 (.agg #[.int .i64 0, .int .i64 0]) 2 16 Try.underlying53 hi0 hz0' hz1 hz2 rfl (by decide) (.slice aV k cV) k (flat O) rfl HV.out 1 #[.int .i64 f, .int .i64 t] rfl rfl (by simp [Value.oneCell']) (by omega) (by decide) (by omega) ?_); intro v' w4 hv4 hg4 hat)
      have hbl4 : Below w.heap.size w w4 := bl_own hbl HV.out hg4 (Nat.le_refl _)
      refine ⟨?_, by first | (simp [intOf]; done) | (simp [intOf]; omega)⟩
      exact FIN'.out _ _ hv4 hbl4
    · obtain rfl : k = l.length := by omega
      rw [List.take_length] at hv
      have HV := hide hv
      clear hv hlt
      go_wp2
      go_ret
      exact ⟨_, rfl, hbl, HV.out⟩
/-- The code of the reference's Ranged. -/
def rangedE (n : Int) (l : List Ed) : Int := if l.all (fun e => mayB e.1 n) then (if apF (sortS (l.map (·.1))) then 0 else 5) else 3
theorem rangedE_no (n : Int) (l : List Ed) (k : Nat) (h : k < l.length) (hb : mayB l[k].1 n = false) : rangedE n l = 3 := by
  unfold rangedE
  rw [if_neg]
  intro hall
  have := List.all_eq_true.1 hall l[k] (List.getElem_mem h)
  rw [hb] at this; cases this
theorem rangedE_in (n : Int) (l : List Ed) (h : ∀ j (h : j < l.length), mayB l[j].1 n = true) : rangedE n l = if apF (sortS (l.map (·.1))) then 0 else 5 := by
  unfold rangedE; rw [if_pos (mayE_in h)]
theorem mayE_of (n : Int) (l : List Ed) : mayE n l = if rangedE n l = 0 then (if grown n l > 65536 then 4 else 0) else rangedE n l := by
  unfold mayE rangedE
  repeat' split
  all_goals (try omega)
  all_goals (first | rfl | (exfalso; simp_all; done) | simp_all)
def RgInv (l : List Ed) (n : Int) (w : World) (i : Value) (wr : World) : Prop :=
  ∃ k : Nat, i = .int .i64 k ∧ k ≤ l.length ∧ (∀ j (h : j < l.length), j < k → mayB l[j].1 n = true) ∧ Below w.heap.size w wr
theorem rapartm_any (v : Value) (l : List Sp) (r : Bool) (w : World) (h : SpAt w v l) (hl : l.length ≤ 1000) (hr : apF (sortS l) = r) :
    Calls Try.prog 29 #[v] w fun e w' => e = .returned (.bool r) ∧ Below w.heap.size w w' := by
  subst hr; exact rapart_any v l w h hl
set_option maxRecDepth 100000 in
set_option maxHeartbeats 4000000 in
theorem ranged_any (n r : Int) (v : Value) (l : List Ed) (w : World) (h : EdAt w v l) (hl : l.length ≤ 1000) (hr : rangedE n l = r) :
    Calls Try.prog 38 #[.int .i64 n, v] w fun e w' => e = .returned (.int .i64 r) ∧ Below w.heap.size w w' := by
  obtain ⟨aA, cA, rfl⟩ := edat_len h
  have H := hide h
  have HR := hide hr
  clear h hr
  go_enter Try.func38, Try.ntmps38
  go_wp2
  go_loopw [5] (fun i wr => RgInv l n w i wr) (fun i _ => l.length - (intOf i).toNat)
  case atStart => exact ⟨0, rfl, Nat.zero_le _, fun j h1 h2 => by omega, bl_refl w⟩
  case round =>
    obtain ⟨k, rfl, hk, hin, hbl⟩ := hrel
    by_cases hlt : k < l.length
    · obtain ⟨b1, o1, c1', hv1, hc1, hm1, hlb1, hcell1⟩ := edat_some (edat_below H.out hbl) (by omega)
      injection hv1 with hv1 _ hv1c
      subst hv1 hv1c
      unfold maxLen at hm1
      obtain ⟨x1, x2, x3⟩ := hcell1 k hlt
      obtain ⟨rb, hrb⟩ : ∃ rb, mayB l[k].1 n = rb := ⟨_, rfl⟩
      have hno := rangedE_no n l k hlt
      have hyes : rb = true → ∀ j (h : j < l.length), j < k + 1 → mayB l[j].1 n = true := fun h j h1 h2 => by
        by_cases hj : j = k
        · subst hj; rw [hrb]; exact h
        · exact hin j h1 (by omega)
      have HNO := hide (fun h => HR.out.symm.trans (hno (hrb.trans h)))
      have HYES := hide hyes
      have HRB := hide hrb
      clear hcell1 hno hyes hrb hin HR
      generalize l[k] = s at *
      obtain ⟨⟨f, t⟩, x⟩ := s
      have HRB' : Hid (mayB (f, t) n = rb) := HRB
      go_wp2_with fail
      refine (r5may_any (f, t) n rb _ HRB'.out).mono ?_
      rintro e w5 ⟨rfl, hb5⟩
      have hb6 := bl_trans hbl hb5
      cases rb
      · have HNO2 := hide (HNO.out rfl)
        clear HNO HYES HRB HRB' x1 x2 x3
        go_wp2
        go_ret
        exact ⟨ret_int HNO2.out.symm, hb6⟩
      · have HY2 := hide (HYES.out rfl)
        clear HNO HYES HRB HRB' x1 x2 x3
        go_wp2
        refine ⟨?_, by first | (simp [intOf]; done) | (simp [intOf]; omega)⟩
        exact ⟨k + 1, by go_num, by omega, HY2.out, hb6⟩
    · obtain rfl : k = l.length := by omega
      have hfin := rangedE_in n l (fun j hj => hin j hj hj)
      rw [HR.out] at hfin
      obtain ⟨ap, hap⟩ : ∃ ap, apF (sortS (l.map (·.1))) = ap := ⟨_, rfl⟩
      rw [hap] at hfin
      have HF := hide hfin
      have HAP := hide hap
      clear hfin hap hin hlt HR
      go_wp2_with fail
      refine (r6spans_any _ l _ (edat_below H.out hbl) hl).mono ?_
      rintro e w5 ⟨v5, rfl, hb5, ho5⟩
      have HO5 := hide (own_spat (by rw [List.length_map]; exact ho5))
      clear ho5
      go_wp2_with fail
      refine (rapartm_any _ (l.map (·.1)) ap _ HO5.out (by rw [List.length_map]; exact hl) HAP.out).mono ?_
      rintro e w6 ⟨rfl, hb6⟩
      have hb7 := bl_trans hbl (bl_trans hb5 hb6)
      cases ap
      · have HF2 : Hid (r = 5) := hide (by rw [HF.out]; rfl)
        clear HF HAP HO5
        go_wp2
        go_ret
        exact ⟨ret_int HF2.out.symm, hb7⟩
      · have HF2 : Hid (r = 0) := hide (by rw [HF.out]; rfl)
        clear HF HAP HO5
        go_wp2
        go_ret
        exact ⟨ret_int HF2.out.symm, hb7⟩
set_option maxRecDepth 100000 in
set_option maxHeartbeats 4000000 in
theorem r6grown_any (n r : Int) (v : Value) (l : List Ed) (w : World) (h : EdAt w v l) (hl : l.length ≤ 1000) (hg : ∀ e ∈ l, GoodD e) (hn : -1125899906842624 ≤ n ∧ n ≤ 1125899906842624) (hr : grown n l = r) :
    Calls Try.prog 39 #[.int .i64 n, v] w fun e w' => e = .returned (.int .i64 r) ∧ Below w.heap.size w w' := by
  subst hr
  obtain ⟨aA, cA, rfl⟩ := edat_len h
  have H := hide h
  clear h
  have hbd := grown_bd n l hg
  have hall : grown n (l.take l.length) = grown n l := by rw [List.take_of_length_le (Nat.le_refl _)]
  have HBD := hide hbd
  have HALL := hide hall
  have HG := hide hg
  clear hbd hall hg
  go_enter Try.func39, Try.ntmps39
  go_wp2
  go_loopw [0, 5] (fun m i wr => ∃ k : Nat, i = .int .i64 k ∧ k ≤ l.length ∧ m = .int .i64 (grown n (l.take k)) ∧ Below w.heap.size w wr) (fun _ i _ => l.length - (intOf i).toNat)
  case atStart => exact ⟨0, rfl, Nat.zero_le _, by simp [grown], bl_refl w⟩
  case round =>
    obtain ⟨k, rfl, hk, rfl, hbl⟩ := hrel
    by_cases hlt : k < l.length
    · obtain ⟨b1, o1, c1, hv1, hc1, hm1, hlb1, hcell1⟩ := edat_some (edat_below H.out hbl) (by omega)
      injection hv1 with hv1 _ hv1c
      subst hv1 hv1c
      unfold maxLen at hm1
      obtain ⟨x1, x2, x3⟩ := hcell1 k hlt
      have hs := grown_take n l k hlt
      have hb := HBD.out k hk
      obtain ⟨⟨g1, g2⟩, ⟨g3, g4⟩, g5⟩ := HG.out l[k] (List.getElem_mem _)
      unfold dl len at hs
      clear hcell1
      generalize l[k] = s at *
      generalize grown n (l.take k) = cur at *
      have HS := hide hs
      clear hs
      obtain ⟨⟨f, t⟩, x⟩ := s
      have g1' : -2199023255552 ≤ f := g1
      have g2' : f ≤ 2199023255552 := g2
      have g3' : -2199023255552 ≤ t := g3
      have g4' : t ≤ 2199023255552 := g4
      have g5' : x.size ≤ 70000 := g5
      clear g1 g2 g3 g4 g5
      have hb1 : -9000000000000000 - 1125899906842624 ≤ cur := by omega
      have hb2 : cur ≤ 1125899906842624 + 9000000000000000 := by omega
      have hw0 : IntKind.i64.wrap (t - f) = t - f := IntWalk.i64_in _ (by omega)
      have hw1 : IntKind.i64.wrap (cur + (x.size : Int)) = cur + (x.size : Int) := IntWalk.i64_in _ (by omega)
      have hw2 : IntKind.i64.wrap (cur + (x.size : Int) - (t - f)) = cur + (x.size : Int) - (t - f) := IntWalk.i64_in _ (by omega)
      clear hb
      go_wp2
      go_quiet (fail)
      go_wp2
      refine ⟨?_, by first | (simp [intOf]; done) | (simp [intOf]; omega)⟩
      have e9 : ((x.size : Int)) = len ((f, t), x) := rfl
      first
        | exact ⟨k + 1, by go_num, by omega, by rw [HS.out]; first | rfl | (show Value.int .i64 _ = Value.int .i64 (cur + ((x.size : Int) - (t - f))); congr 1; omega), bl_drewN hbl _⟩
        | ((repeat apply Exists.intro); exact ⟨⟨k + 1, by go_num, by omega, by rw [HS.out]; show Value.int .i64 _ = Value.int .i64 (cur + ((x.size : Int) - (t - f))); congr 1; omega, bl_drewN hbl _⟩, rfl⟩)
    · obtain rfl : k = l.length := by omega
      rw [HALL.out]
      clear HBD HALL
      go_wp2
      go_ret
      exact ⟨rfl, hbl⟩
set_option maxHeartbeats 2000000 in
theorem r6may_any (n r : Int) (v : Value) (l : List Ed) (w : World) (h : EdAt w v l) (hl : l.length ≤ 1000) (hx : ∀ e ∈ l, e.2.size ≤ 70000) (hn : 0 ≤ n ∧ n ≤ 1000000) (hr : mayE n l = r) :
    Calls Try.prog 20 #[.int .i64 n, v] w fun e w' => e = .returned (.int .i64 r) ∧ Below w.heap.size w w' := by
  have H := hide h
  obtain ⟨q, hq⟩ : ∃ q, rangedE n l = q := ⟨_, rfl⟩
  have hm := mayE_of n l
  rw [hq, hr] at hm
  have HQ := hide hq
  by_cases h0 : q = 0
  · subst h0
    have hmem : ∀ e ∈ l, mayB e.1 n = true := by
      unfold rangedE at hq
      by_cases h1 : l.all (fun e => mayB e.1 n) = true
      · exact fun e he => List.all_eq_true.1 h1 e he
      · rw [if_neg h1] at hq; omega
    have hg : ∀ e ∈ l, GoodD e := fun e he => by
      have h1 := hmem e he
      unfold mayB at h1
      have h2 := of_decide_eq_true h1
      have h3 := hx e he
      exact ⟨by omega, by omega, h3⟩
    have HG := hide hg
    obtain ⟨gr, hgr⟩ : ∃ gr, grown n l = gr := ⟨_, rfl⟩
    rw [hgr, if_pos rfl] at hm
    have HGR := hide hgr
    have h00 : ((0 : Int) != 0) = false := rfl
    by_cases hbig : gr > 65536
    · rw [if_pos hbig] at hm
      subst hm
      have d1 : decide (65536 < gr) = true := by simp; omega
      clear h hr hq hmem hg hgr hx hbig
      go_enter Try.func20, Try.ntmps20
      go_wp2_with fail
      refine (ranged_any n 0 v l _ H.out hl HQ.out).mono ?_
      rintro e w1 ⟨rfl, hb1⟩
      have H1 := hide (edat_below H.out hb1)
      go_wp2_with fail
      refine (r6grown_any n gr v l _ H1.out hl HG.out (by omega) HGR.out).mono ?_
      rintro e w2 ⟨rfl, hb2⟩
      go_wp2
      go_ret
      exact ⟨rfl, bl_trans hb1 hb2⟩
    · rw [if_neg hbig] at hm
      subst hm
      have d1 : decide (65536 < gr) = false := by simp; omega
      clear h hr hq hmem hg hgr hx hbig
      go_enter Try.func20, Try.ntmps20
      go_wp2_with fail
      refine (ranged_any n 0 v l _ H.out hl HQ.out).mono ?_
      rintro e w1 ⟨rfl, hb1⟩
      have H1 := hide (edat_below H.out hb1)
      go_wp2_with fail
      refine (r6grown_any n gr v l _ H1.out hl HG.out (by omega) HGR.out).mono ?_
      rintro e w2 ⟨rfl, hb2⟩
      go_wp2
      go_ret
      exact ⟨rfl, bl_trans hb1 hb2⟩
  · rw [if_neg h0] at hm
    subst hm
    have d1 : (r != 0) = true := by simp [h0]
    clear h hr hq hx h0
    go_enter Try.func20, Try.ntmps20
    go_wp2_with fail
    refine (ranged_any n r v l _ H.out hl HQ.out).mono ?_
    rintro e w1 ⟨rfl, hb1⟩
    go_wp2
    go_ret
    exact ⟨rfl, hb1⟩
end Go.Proofs.Ytbaaciekjpadfaa
