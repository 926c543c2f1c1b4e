/- Contract of Move: where edits lead an offset. Conditions: at most 20 edits of numbers from -2^41 to 2^41 and short texts, an offset from -2^50 to 2^50. -/
import Derived.Test.YtjkjgfgblfioeaaEdV
import Derived.RegionIn
namespace Go.Proofs.Ytjkjgfgblfioeaa
open Go.ChangeShapes Go.WideShapes Go.ChangeAt Go.RowKit Go.Shelf
open SpanM EdM
attribute [local go_sem] Oper.semAt_some
def mvF (right : Bool) (a : Int) (pre : List GE) : Int := pre.foldl (fun a x => mv1 right a x.1.2) a
theorem mvF_snoc (right : Bool) (a : Int) (pre : List GE) (x : GE) : mvF right a (pre ++ [x]) = mv1 right (mvF right a pre) x.1.2 := by unfold mvF; rw [List.foldl_append]; rfl
theorem mvF_back (right : Bool) (a : Int) (l : List Ed) (hg : ∀ e ∈ l, Good e) : mvF right a (back l hg l.length) = mvR right l a := by
  have h := back_all l hg
  have e1 : mvF right a (back l hg l.length) = ((back l hg l.length).map (·.1.2)).foldl (fun a e => mv1 right a e) a := by unfold mvF; rw [List.foldl_map]
  rw [e1, h, List.foldl_reverse]
  rfl
theorem mv1_bd (right : Bool) (a : Int) (e : Ed) (hg : Good e) (k : Int) (hk : 0 ≤ k) (h : -1125899906842624 - k ≤ a ∧ a ≤ 1125899906842624 + k) : -1125899906842624 - (k + 8796093022208) ≤ mv1 right a e ∧ mv1 right a e ≤ 1125899906842624 + (k + 8796093022208) := by
  obtain ⟨h1, h2, h3⟩ := hg
  have h4 := len_nn e
  have h5 : len e ≤ 70000 := by unfold len; omega
  unfold mv1 dl
  repeat' split
  all_goals omega
theorem mvF_bd (right : Bool) (a : Int) (pre : List GE) (h : -1125899906842624 ≤ a ∧ a ≤ 1125899906842624) : -1125899906842624 - pre.length * 8796093022208 ≤ mvF right a pre ∧ mvF right a pre ≤ 1125899906842624 + pre.length * 8796093022208 := by
  have key : ∀ n (pre : List GE), pre.length = n → -1125899906842624 - (n : Int) * 8796093022208 ≤ mvF right a pre ∧ mvF right a pre ≤ 1125899906842624 + (n : Int) * 8796093022208 := by
    intro n
    induction n with
    | zero =>
      intro pre hn
      have : pre = [] := List.eq_nil_of_length_eq_zero hn
      subst this
      simpa [mvF] using h
    | succ n ih =>
      intro pre hn
      rcases List.eq_nil_or_concat pre with rfl | ⟨p, x, rfl⟩
      · simp at hn
      · rw [List.concat_eq_append] at *
        have h1 := ih p (by simpa using hn)
        rw [mvF_snoc]
        have := mv1_bd right _ x.1.2 x.2 ((n : Int) * 8796093022208) (by omega) h1
        omega
  exact key _ pre rfl
theorem kx_below {B N0 : Nat} {W W' : World} (h : Below W.heap.size W W') : KX B N0 W W' := fun hx => ⟨h.size, fun k hk _ => h.block k (by omega)⟩
theorem kx_set {B N0 : Nat} (W : World) (o : Nat) (v : Value) : KX B N0 W (W.setCell ⟨B, o, none⟩ v) := fun _ => ⟨by simp [World.setCell], fun k _ hb => Below.heap_setCell W _ v k (fun e => hb e)⟩
theorem kf_below {B : Nat} {W W' : World} (h : Below W.heap.size W W') : KeepsFrom B W W' := ⟨h.size, fun k _ _ h0 _ => (h.block k (Array.getElem?_eq_some_iff.1 h0).1).trans h0⟩
/-- What a round leaves: the box of the offset turned, new blocks. -/
theorem round_end {w W0 W W1 : World} {bo : Int} {right : Bool} {x : Int} (bA : Boxed W w.heap.size 3 (.int .i64 bo)) (bR : Boxed W (w.heap.size + 1) 4 (.bool right)) (hB : Below w.heap.size w W) (hW : W0.heap.size ≤ W.heap.size) (hb : Below W.heap.size W W1) :
    KeepsFrom W0.heap.size W (W1.setCell ⟨w.heap.size, 0, none⟩ (.int .i64 x)) ∧ KX w.heap.size W0.heap.size W (W1.setCell ⟨w.heap.size, 0, none⟩ (.int .i64 x)) ∧
      ((Boxed (W1.setCell ⟨w.heap.size, 0, none⟩ (.int .i64 x)) w.heap.size 3 (.int .i64 x) ∧ Boxed (W1.setCell ⟨w.heap.size, 0, none⟩ (.int .i64 x)) (w.heap.size + 1) 4 (.bool right)) ∧ (Below w.heap.size w (W1.setCell ⟨w.heap.size, 0, none⟩ (.int .i64 x)) ∧ W0.heap.size ≤ (W1.setCell ⟨w.heap.size, 0, none⟩ (.int .i64 x)).heap.size)) := by
  have bA1 : Boxed W1 w.heap.size 3 (.int .i64 bo) := (hb.block _ bA.lt).trans bA
  have bR1 : Boxed W1 (w.heap.size + 1) 4 (.bool right) := (hb.block _ bR.lt).trans bR
  have hs := hb.size
  exact ⟨(kf_below hb).trans ((KeepsOthers.setCell _ _ _).from _), (kx_below hb).trans (kx_set _ _ _), ⟨bA1.set _, bR1.other (by omega) _⟩, (bl_trans hB hb).setCell (p := ⟨w.heap.size, 0, none⟩) (Nat.le_refl _) _, by simp [World.setCell]; omega⟩
set_option maxRecDepth 100000 in
set_option maxHeartbeats 8000000 in
theorem move_any (at' : Int) (right : Bool) (v : Value) (l : List Ed) (w : World) (h : EdAt w v l) (hl : l.length ≤ 20) (hg0 : ∀ e ∈ l, Good e) (hat : -1125899906842624 ≤ at' ∧ at' ≤ 1125899906842624) :
    Calls Try.prog 25 #[.int .i64 at', .bool right, v] w fun e w' => e = .returned (.int .i64 (mvR right (sortE l) at')) ∧ Below w.heap.size w w' := by
  have hg : ∀ e ∈ sortE l, Good e := fun e he => hg0 e ((sortE_perm l).mem_iff.1 he)
  have hsl := sortE_len l
  obtain ⟨res, hres⟩ : ∃ r, mvR right (sortE l) at' = r := ⟨_, rfl⟩
  rw [hres]
  have hbk := mvF_back right at' (sortE l) hg
  rw [hres] at hbk
  clear hres
  have H := hide h
  clear h
  have hord := fun W hh => inorder_any v l W hh hl
  generalize sortE l = S at *
  have HORD := hide hord
  clear hord
  have HBK := hide hbk
  clear hbk
  obtain ⟨aV, cV, rfl⟩ := edat_len H.out
  refine (callsIn_wide (n := 5)).1 ?_
  refine callsIn_of_wp_marks Try.func25 rfl trivial ?_ rfl
  simp only [Try.ntmps25, List.size_toArray, List.length_cons, List.length_nil, Nat.reduceAdd, Nat.reduceSub, Array.replicate_succ, Array.replicate_zero, List.push_toArray, List.append_toArray, List.nil_append, List.cons_append]
  have bA := Boxed.new w 3 (.int .i64 at')
  have bR := Boxed.new (w.alloc (.cells #[.int .i64 at'] 3)) 4 (.bool right)
  have H2 := hide (edat_below H.out (bl_alloc (bl_alloc (bl_refl w) (.cells #[.int .i64 at'] 3)) (.cells #[.bool right] 4)))
  gi_wp2_with (refine ⟨trivial, ?_⟩; gi_at_call 39; refine (callsIn_wide.2 (HORD.out _ H2.out)).mono ?_; rintro e w1 ⟨v1, rfl, hb1, he1⟩)
  obtain ⟨a1, c1, rfl⟩ := edat_len he1
  rw [hsl] at he1
  have HE1 := hide he1
  clear he1
  refine ⟨trivial, ?_⟩
  gi_at_call 38
  refine (callsIn_wide.2 (backw_any _ _ _ _)).mono ?_
  rintro e w2 ⟨rfl, rfl⟩
  gi_wp2
  rw [World.size_alloc] at bR
  have bA1 : Boxed w1 w.heap.size 3 (.int .i64 at') := (hb1.block _ (by simp; omega)).trans (bA.alloc _)
  have bR1 : Boxed w1 (w.heap.size + 1) 4 (.bool right) := (hb1.block _ (by simp)).trans bR
  have hB1 : Below w.heap.size w w1 := bl_trans (bl_alloc (bl_alloc (bl_refl w) _) _) hb1
  have hs1 : w.heap.size + 2 ≤ w1.heap.size := by have := hb1.size; simp at this; omega
  clear bA bR hb1 H2 H HORD
  have bA2 := bA1.alloc (.cells #[.slice a1 l.length c1] 42)
  have bR2 := bR1.alloc (.cells #[.slice a1 l.length c1] 42)
  have bS2 := Boxed.new w1 42 (.slice a1 l.length c1)
  have hB2 : Below w.heap.size w (w1.alloc (.cells #[.slice a1 l.length c1] 42)) := hB1.alloc hB1.size _
  have HE2 := hide (edat_below HE1.out (bl_alloc (bl_refl w1) (.cells #[.slice a1 l.length c1] 42)))
  have hsz : (w1.alloc (.cells #[.slice a1 l.length c1] 42)).heap.size = w1.heap.size + 1 := by simp
  have hne : ∀ b off c, 0 < S.length → Value.slice a1 l.length c1 = .slice (some ⟨b, off, none⟩) S.length c → b ≠ w.heap.size := by
    intro b off c hp hv
    injection hv with h1 _ _
    subst h1
    obtain ⟨b', off', c', hv', _, _, _, hcell⟩ := edat_some HE2.out hp
    injection hv' with h2 _ _
    injection h2 with h2
    injection h2 with h2 h3
    subst h2 h3
    rintro rfl
    have h4 := (hcell 0 hp).2.1
    have h5 : (w1.alloc (.cells #[.slice (some ⟨w.heap.size, off, none⟩) l.length c1] 42)).cell? ⟨w.heap.size, off + 0 * 3 + 1, none⟩ = (#[Value.int .i64 at'])[off + 0 * 3 + 1]? := by
      simp [World.cell?, show (w1.alloc (.cells #[.slice (some ⟨w.heap.size, off, none⟩) l.length c1] 42)).heap[w.heap.size]? = _ from bA2]
    rw [h5] at h4
    simp at h4
  obtain ⟨W0, hW0⟩ : ∃ W0, w1.alloc (.cells #[.slice a1 l.length c1] 42) = W0 := ⟨_, rfl⟩
  rw [hW0] at bA2 bR2 bS2 hB2 HE2 hsz ⊢
  clear hW0 bA1 bR1 hB1 HE1
  refine wpIn_rangeFunc_ownH (F := Fence.wide) rfl (by omega) (gf := 44) (lb := #[.pointer (some ⟨w1.heap.size, 0, none⟩)]) rfl trivial (enters_of Try.func44 (by kernel_rfl) rfl)
    (backw_stops Fence.wide 4 trivial rfl (by omega) w1.heap.size w.heap.size W0.heap.size _ S hg (by omega) W0 (by omega) (by omega) rfl bS2.cell HE2.out hne) (fun h k => KX.trans h k) (kx_b rfl) (Below.refl _ _) (fun _ => rfl)
    (fun pre W => (Boxed W w.heap.size 3 (.int .i64 (mvF right at' pre)) ∧ Boxed W (w.heap.size + 1) 4 (.bool right)) ∧ (Below w.heap.size w W ∧ W0.heap.size ≤ W.heap.size))
    (fun _ _ _ => False)
    (OwnFrom.and (OwnFrom.and (Own.from (boxed_own _ _ _) _) (Own.from (boxed_own _ _ _) _)) (OwnFrom.and (ownFrom_below (Nat.le_refl _) (by omega)) ?ownsz))
    (fun _ _ _ _ _ hs _ _ => hs)
    ⟨⟨bA2, bR2⟩, hB2, Nat.le_refl _⟩
    (fun x a' W => ∃ Bx, W0.heap.size ≤ Bx ∧ W.heap[Bx]? = some (.cells #[.int .i64 x.1.2.1.1, .int .i64 x.1.2.1.2, .string x.1.2.2] 44 (0, 0)) ∧ a' = { tmps := #[.int .i64 at', .bool right, .slice aV l.length cV, .pointer (some ⟨w.heap.size, 0, none⟩), .pointer (some ⟨w.heap.size + 1, 0, none⟩), undef, .int .i64 0, undef, .pointer (some ⟨Bx, 0, none⟩), .slice aV l.length cV, .slice a1 l.length c1, .func (.func 44) #[] #[.pointer (some ⟨w1.heap.size, 0, none⟩)], .int .i64 (x.1.1 : Int), .agg #[.int .i64 x.1.2.1.1, .int .i64 x.1.2.1.2, .string x.1.2.2], undef, undef, undef, undef, undef, undef, undef, undef, undef, undef, undef, undef, undef, undef, undef, undef, undef, undef, undef, undef, undef, undef, undef, undef, undef, undef, undef, undef, undef, undef, undef, undef, undef, undef], defers := [] })
    (fun x a' _ X Y row hs hg hr => by
      obtain ⟨Bx, h1, h2, h3⟩ := hs
      exact ⟨Bx, h1, (hg.block Bx (Array.getElem?_eq_some_iff.1 h2).1 (fun e => by obtain ⟨o, ho, hc⟩ := (hr Bx e.symm).2; rw [h2] at ho; cases ho; cases hc)).trans h2, h3⟩)
    ?assign ?body ?done ?stop
  case ownsz => exact fun _ X Y row hs hg hr => Nat.le_trans hs hg.size
  case assign =>
    rintro y pre x W K ⟨⟨bA3, bR3⟩, hB3, hW3⟩ hK
    gi_wp2
    exact hK _ _ ((KeepsOthers.alloc _ _).from _) (fun _ => ⟨by simp, fun k hk _ => Below.heap_alloc W _ k (by omega)⟩) ⟨⟨bA3.alloc _, bR3.alloc _⟩, hB3.alloc hB3.size _, by simp; omega⟩ ⟨W.heap.size, hW3, World.alloc_heap_new W _, rfl⟩
  case body =>
    rintro y pre x a' W hy ⟨r, hr⟩ ⟨⟨bA3, bR3⟩, hB3, hW3⟩ ⟨Bx, hBx, bX, rfl⟩ hlt
    have cA := bA3.cell
    have fA := bA3.frozen
    have cR := bR3.cell
    have hbd := mvF_bd right at' pre hat
    have hsn := mvF_snoc right at' pre x
    have hpl : (pre.length : Int) < 20 := by omega
    obtain ⟨⟨xi, ⟨⟨f, t⟩, s⟩⟩, hx⟩ := x
    have g1 : -2199023255552 ≤ f := hx.1.1
    have g2 : f ≤ 2199023255552 := hx.1.2
    have g3 : -2199023255552 ≤ t := hx.2.1.1
    have g4 : t ≤ 2199023255552 := hx.2.1.2
    have g5 : s.size ≤ 70000 := hx.2.2
    have hmx : Try.prog.follows .mixedOrders = true := by kernel_rfl
    replace hsn : mvF right at' (pre ++ [⟨(xi, (f, t), s), hx⟩]) = mv1 right (mvF right at' pre) ((f, t), s) := hsn
    replace bX : W.heap[Bx]? = some (.cells #[.int .i64 f, .int .i64 t, .string s] 44 (0, 0)) := bX
    have c1 : W.cell? ⟨Bx, 0, none⟩ = some (.int .i64 f) := by simp [World.cell?, bX]
    have c2 : W.cell? ⟨Bx, 1, none⟩ = some (.int .i64 t) := by simp [World.cell?, bX]
    have c3 : W.cell? ⟨Bx, 2, none⟩ = some (.string s) := by simp [World.cell?, bX]
    generalize mvF right at' pre = cur at *
    have HSN := hide hsn
    have hlo : -1125899906842624 - 20 * 8796093022208 ≤ cur := by omega
    have hhi : cur ≤ 1125899906842624 + 20 * 8796093022208 := by omega
    clear hsn hbd hpl HBK hne HE2 bS2 bA2 bR2 hB2 hr hlt hsz hs1 hsl
    have q1 : -4000000000000000000 ≤ f := by omega
    have q2 : f ≤ 4000000000000000000 := by omega
    have q3 : -4000000000000000000 ≤ t := by omega
    have q4 : t ≤ 4000000000000000000 := by omega
    show _
    by_cases h1 : cur < f
    · have e1 := HSN.out
      unfold mv1 at e1
      rw [if_pos h1] at e1
      have HE := hide e1
      clear e1 HSN
      gi_wp2
      exact ⟨KeepsFrom.refl _ _, KX.refl _ _ _, ⟨by rw [HE.out]; exact bA3, bR3⟩, hB3, hW3⟩
    · by_cases h2 : t < cur
      · have e1 := HSN.out
        unfold mv1 at e1
        rw [if_neg h1, if_pos h2] at e1
        unfold dl len at e1
        simp only at e1
        have HE := hide e1
        clear e1 HSN
        have hw1 : IntKind.i64.wrap ((s.size : Int) - (t - f)) = (s.size : Int) - (t - f) := IntWalk.i64_in _ (by omega)
        have hlA : w.heap.size < W.heap.size := bA3.lt
        have hw2 : IntKind.i64.wrap (cur + ((s.size : Int) - (t - f))) = cur + ((s.size : Int) - (t - f)) := IntWalk.i64_in _ (by omega)
        gi_wp2
        gi_region_with_o (refine ⟨trivial, ?_⟩; gi_at_call 40; refine (CallsIn.inRound y (callsIn_wide.2 (slene_any (f, t) (t - f) _ q1 q2 q3 q4 rfl))).mono ?_; rintro e w4 ⟨rfl, hb4⟩; have hb5 : Below W.heap.size W w4 := bl_trans (by first | exact bl_drew (bl_refl _) | exact bl_refl _) hb4; have d1 := cell_later hb5 cA; have d2 := cell_later hb5 c1; have d3 := cell_later hb5 c2; have d4 := cell_later hb5 c3; have d5 := (hb5.frozen (p := ⟨w.heap.size, 0, none⟩) hlA).trans fA)
        all_goals
          obtain ⟨e1, e2, ⟨e3, e4⟩, e5, e6⟩ := round_end (x := cur + ((s.size : Int) - (t - f))) bA3 bR3 hB3 hW3 hb5
          gi_wp2
          exact ⟨e1, e2, ⟨by rw [HE.out]; exact e3, e4⟩, e5, e6⟩
      · cases right
        · have e1 := HSN.out
          unfold mv1 at e1
          rw [if_neg h1, if_neg h2] at e1
          simp only [Bool.false_eq_true, if_false] at e1
          have HE := hide e1
          clear e1 HSN
          have hend := round_end (x := f) bA3 bR3 hB3 hW3 (bl_refl W)
          obtain ⟨e1, e2, ⟨e3, e4⟩, e5, e6⟩ := hend
          gi_wp2
          exact ⟨e1, e2, ⟨by rw [HE.out]; exact e3, e4⟩, e5, e6⟩
        · have e1 := HSN.out
          unfold mv1 at e1
          rw [if_neg h1, if_neg h2] at e1
          unfold len at e1
          simp only [if_true] at e1
          have HE := hide e1
          clear e1 HSN
          have hw1 : IntKind.i64.wrap (f + (s.size : Int)) = f + (s.size : Int) := IntWalk.i64_in _ (by omega)
          have hend := round_end (x := f + (s.size : Int)) bA3 bR3 hB3 hW3 (bl_refl W)
          obtain ⟨e1, e2, ⟨e3, e4⟩, e5, e6⟩ := hend
          gi_wp2
          exact ⟨e1, e2, ⟨by rw [HE.out]; exact e3, e4⟩, e5, e6⟩
  case done =>
    rintro D ys W hD rfl ⟨⟨bA3, bR3⟩, hB3, hW3⟩ hK
    have cA := bA3.cell
    rw [HBK.out] at cA
    gi_wp2
    refine ⟨by simp, .inl ⟨_, _, rfl, run_takeDeferred hK, ?_⟩⟩
    exact ⟨_, results_tmp rfl _ _ _, rfl, hB3.trans (belowK_b (w := w) (Nat.le_refl _) W D _ _ (by omega) hK rfl rfl)⟩
  case stop =>
    rintro D c pre W _ _ h _
    exact h.elim
end Go.Proofs.Ytjkjgfgblfioeaa
