/- Ranges without parents go by edits that are apart where they go by each of these alone, from the last one to the first. Conditions: none beyond the form's own. -/
import Derived.Test.YtjmoeahlbgdkbaaRows
import Derived.Test.YtjmoeahlbgdkbaaArgs
import Derived.Test.YtjmoeahlbgdkbaaTabArgs
import Derived.Test.YtjmoeahlbgdkbaaTabQ
import Derived.Test.YtjmoeahlbgdkbaaTabL
namespace Go.Proofs.Ytjmoeahlbgdkbaa.marksSingly
open Go.Proofs.Ytjmoeahlbgdkbaa
open Go.ChangeShapes Go.WideShapes Go.ChangeAt Go.RowKit Go.Deep
open Go.ChangeMaps (open_string shut_string)
set_option linter.unusedVariables false

theorem own : ownKnob Try.prog.godebug = none := by kernel_rfl
theorem laidOut : laidOutB Try.prog = true := by kernel_rfl
-- opt:16000000
open SpanM EdM
attribute [local go_sem ↓] Go.wp_at_zero Go.wp_at_succ
def S1 (n B : Nat) (w : World) (i : Value) (wr : World) : Prop :=
  ∃ (k : Nat) (L : List Mk) (v : Value), i = .int .i64 k ∧ k ≤ n ∧ L.length = k ∧ Hid (Tab wr B B (k : Int) v L) ∧ Hid (OkL L) ∧ Below B w wr
def S2 (m1 m2 C : Nat) (w : World) (es at' i : Value) (wr : World) : Prop :=
  ∃ (k : Nat) (X : Int) (l : List Ed), i = .int .i64 k ∧ at' = .int .i64 X ∧ k ≤ m1 ∧ k ≤ m2 ∧ l.length = k ∧ 0 ≤ X ∧ X ≤ 10 * k ∧ Hid (wr.ownsRow C 61 3 es k (flatE l)) ∧ Hid (Gth X l) ∧ Below C w wr
def S3 (es : List Ed) (L : List Mk) (B Bt tb2 C m : Nat) (n : Int) (v v2 vE : Value) (w : World) (i : Value) (wr : World) : Prop :=
  ∃ j : Nat, j ≤ es.length ∧ ((j = 0 ∧ i = .int .i64 (-1)) ∨ (∃ q : Nat, j = q + 1 ∧ i = .int .i64 q)) ∧ Hid (Tab wr Bt tb2 n v2 (seqL (es.drop j) L)) ∧ Hid (Tab wr B B n v (seqL es L)) ∧ Hid (wr.ownsRow C 61 3 vE m (flatE es)) ∧ Below B w wr
def S4 (K : List Mk) (B Bt tb2 N : Nat) (n : Int) (v v2 : Value) (w : World) (i : Value) (wr : World) : Prop :=
  ∃ c : Nat, i = .int .i64 c ∧ 1 ≤ c ∧ c ≤ N + 1 ∧ Hid (Tab wr Bt tb2 n v2 K) ∧ Hid (Tab wr B B n v K) ∧ Below B w wr
theorem seqL_at {L : List Mk} (es : List Ed) (h : OkL L) (i : Nat) (hi : i < (seqL es L).length) : (seqL es L)[i].id = (i : Int) + 1 := by
  have hi' : i < L.length := by unfold seqL at hi; simpa using hi
  have e : (seqL es L)[i] = seqR es L[i] := (List.getElem_of_eq (show seqL es L = L.map (seqR es) from rfl) hi).trans (List.getElem_map ..)
  rw [e, (seqR_p es _).2, (h i hi').1]
theorem got_at {L : List Mk} {x : Int} {r : Value} {ok : Bool} (hR : RiseM L) (h : GotM L x r ok) (i0 : Nat) (hi0 : i0 < L.length) (hid : L[i0].id = x) : r = vR L[i0] ∧ ok = true := by
  rcases h with ⟨h1, i, hi, hx, hv⟩ | ⟨_, _, hno⟩
  · have : i = i0 := by
      rcases Nat.lt_trichotomy i i0 with h | h | h
      · have := rise_at hR i i0 h hi0; omega
      · exact h
      · have := rise_at hR i0 i h hi; omega
    subst this
    exact ⟨hv, h1⟩
  · exact absurd hid (hno _ (List.getElem_mem hi0))
set_option maxRecDepth 100000 in
set_option maxHeartbeats 16000000 in
theorem walk (a0 : Value) (l0 : List SpanM.Sp) (a1 : Option Addr) (len1 cap1 : Nat) (z1 : List Bool) (a2 : Option Addr) (len2 cap2 : Nat) (z2 : List Int) (a3 : Option Addr) (len3 cap3 : Nat) (z3 : List ByteArray) (w : World) (w0 : SpAt w a0 l0) (b0 : ∀ s ∈ l0, Wf s) (w1 : IsBools w a1 len1 cap1 z1) (w2 : IsInts .i64 w a2 len2 cap2 z2) (w3 : IsStrs w a3 len3 cap3 z3) :
    Calls Try.prog 7 #[a0, .slice a1 len1 cap1, .slice a2 len2 cap2, .slice a3 len3 cap3] w fun e w' => e = .returned (.bool true) ∧ Below w.heap.size w w' := by
  have hg : (20 < l0.length ∨ 10 < len2 ∨ longL 200 (z3.take len3) = true) ∨ (l0.length ≤ 20 ∧ len2 ≤ 10 ∧ longL 200 (z3.take len3) = false) := by
    cases h : longL 200 (z3.take len3)
    · by_cases c1 : 20 < l0.length
      · exact .inl (.inl c1)
      · by_cases c2 : 10 < len2
        · exact .inl (.inr (.inl c2))
        · exact .inr ⟨by omega, by omega, rfl⟩
    · exact .inl (.inr (.inr rfl))
  obtain ⟨aG, cG, rfl⟩ := spat_len w0
  rcases hg with hg | ⟨h1, h2, h3⟩
  · have hcond : (decide (20 < (l0.length : Int)) = true) ∨ (decide (20 < (l0.length : Int)) = false ∧ decide (10 < (len2 : Int)) = true) ∨ (decide (20 < (l0.length : Int)) = false ∧ decide (10 < (len2 : Int)) = false ∧ longL 200 (z3.take len3) = true) := by
      by_cases c1 : 20 < l0.length
      · exact .inl (by simp; omega)
      by_cases c2 : 10 < len2
      · exact .inr (.inl ⟨by simp; omega, by simp; omega⟩)
      · exact .inr (.inr ⟨by simp; omega, by simp; omega, by rcases hg with h | h | h <;> first | omega | exact h⟩)
    clear hg
    rcases hcond with g1 | ⟨g1, g2⟩ | ⟨g1, g2, g3⟩
    · go_enter Try.func7, Try.ntmps7
      go_wp2_with fail
      refine (awake7_any _).mono ?_
      rintro e w1 ⟨rfl, hb1⟩
      go_wp2
      go_ret
      exact ⟨rfl, hb1⟩
    · go_enter Try.func7, Try.ntmps7
      go_wp2_with fail
      refine (awake7_any _).mono ?_
      rintro e w1 ⟨rfl, hb1⟩
      go_wp2
      go_ret
      exact ⟨rfl, hb1⟩
    · have HL := hide (longe_any _ 200 a3 len3 cap3 z3 true w3 (by omega) (by omega) g3)
      go_enter Try.func7, Try.ntmps7
      go_wp2_with fail
      refine HL.out.mono ?_
      rintro e w1 ⟨rfl, rfl⟩
      go_wp2_with fail
      refine (awake7_any _).mono ?_
      rintro e w2 ⟨rfl, hb1⟩
      go_wp2
      go_ret
      exact ⟨rfl, hb1⟩
  have g1 : decide (20 < (l0.length : Int)) = false := by simp; omega
  have g2 : decide (10 < (len2 : Int)) = false := by simp; omega
  have HL := hide (longe_any _ 200 a3 len3 cap3 z3 false w3 (by omega) (by omega) h3)
  have HLM := hide (long_mem _ _ h3)
  have W0 := hide w0
  have W1 := hide w1
  have W2 := hide w2
  have W3 := hide w3
  have hz1 := bools_len w1
  have hz2 := ints_len w2
  have hz3 := strs_len w3
  have hl1 : len1 ≤ 9223372036854775807 := by
    rcases w1 with ⟨_, h, _⟩ | ⟨x, _, h1, h2, _⟩
    · omega
    · unfold maxLen at h2; omega
  clear w0 w1 w2 w3 h3 b0
  have T0 := hide (tab_new w)
  have B0 := hide (bl_alloc (bl_refl w) (.cells #[.int .i64 0, .slice none 0 0] 75))
  go_enter Try.func7, Try.ntmps7
  go_wp2_with fail
  refine HL.out.mono ?_
  rintro e w1 ⟨rfl, rfl⟩
  go_wp2_with fail
  refine (mnew_any _).mono ?_
  rintro e w1 ⟨rfl, hw1⟩
  rw [hw1] at T0 B0
  clear hw1 HL
  go_wp2
  go_loopw [10] (fun i wr => S1 l0.length w.heap.size w i wr) (fun i _ => l0.length - (intOf i).toNat)
  case atStart => exact ⟨0, [], _, rfl, Nat.zero_le _, rfl, hide T0.out, hide (fun j h => by simp at h), B0.out⟩
  case round =>
    obtain ⟨k, L, v, rfl, hk, hLk, HT, HO, hbl⟩ := hrel
    by_cases hlt : k < l0.length
    · obtain ⟨b1, o1, c1', hv1, hc1, hm1, hlb1, hcell1⟩ := spat_some (spat_below W0.out hbl) (by omega)
      injection hv1 with hv1 _ hv1c
      subst hv1 hv1c
      unfold maxLen at hm1
      obtain ⟨x1, x2⟩ := hcell1 k hlt
      generalize l0[k] = gp at x1 x2
      obtain ⟨gf, gt⟩ := gp
      replace x1 : wr.cell? ⟨b1, o1 + k * 2, none⟩ = some (.int .i64 gf) := x1
      replace x2 : wr.cell? ⟨b1, o1 + k * 2 + 1, none⟩ = some (.int .i64 gt) := x2
      clear hcell1
      obtain ⟨F, hF⟩ : ∃ F : Int, (lowN gf 60 : Int) = F := ⟨_, rfl⟩
      obtain ⟨G, hG⟩ : ∃ G : Int, (lowN gt 12 : Int) = G := ⟨_, rfl⟩
      have hF1 : 0 ≤ F := by omega
      have hF2 : F < 60 := by have := lowN_lt gf 60 (by omega); omega
      have hG1 : 0 ≤ G := by omega
      have hG2 : G < 12 := by have := lowN_lt gt 12 (by omega); omega
      have HF := hide hF
      have HG := hide hG
      clear hF hG
      have hmay : mayB (F, F + G) 65536 = true := by unfold mayB; simp; omega
      go_wp2_with fail
      refine (low_f gf 60 60 F _ (by omega) (by omega) (by omega) HF.out).mono ?_
      rintro e w3 ⟨rfl, rfl⟩
      go_wp2_with fail
      refine (low_f gt 12 12 G _ (by omega) (by omega) (by omega) HG.out).mono ?_
      rintro e w3 ⟨rfl, rfl⟩
      clear x1 x2 HF HG
      by_cases hp : 2 * k + 1 < len1
      · have hd : decide (2 * (k : Int) + 1 < (len1 : Int)) = true := by simp; omega
        have hd' : decide (2 * k + 1 < len1) = true := by simp; omega
        obtain ⟨b2, o2, hv2, hn2, hc2, hm2, hcell2⟩ := bools_cell (bools_below W1.out hbl) (by omega)
        subst hv2
        unfold maxLen at hm2
        have y0 := hcell2 (2 * k) (by omega)
        have y1 := hcell2 (2 * k + 1) (by omega)
        have hb2 := World.block_lt_of_cell? wr _ y0
        generalize z1.getD (2 * k) false = q0 at y0
        generalize z1.getD (2 * k + 1) false = q1 at y1
        clear hcell2
        go_wp2_with fail
        refine (add_any w.heap.size w.heap.size k v L F (F + G) q0 q1 _ (HT.out.later (bl_alloc (bl_refl wr) _)) (by omega) (by have := hbl.size; simp; omega) hmay (by omega)).mono ?_
        rintro e w4 ⟨rfl, ⟨v', T4⟩, B4⟩
        have B5 : Below w.heap.size w w4 := (hbl.trans ((bl_alloc (bl_refl wr) (.cells #[.int .i64 F, .int .i64 (F + G), .bool q0, .bool q1, .int .i64 0] 43)).mono hbl.size)).trans B4
        have HT4 := hide T4
        have HO4 := hide (okL_snoc HO.out F (F + G) q0 q1 (by omega) (by omega) (by omega))
        rw [hLk] at HO4
        clear T4 HT HO
        go_wp2
        refine ⟨?_, by first | (simp [intOf]; done) | (simp [intOf]; omega)⟩
        exact ⟨k + 1, _, v', by go_num, by omega, by rw [List.length_append, hLk]; rfl, HT4, HO4, B5⟩
      · have hd : decide (2 * (k : Int) + 1 < (len1 : Int)) = false := by simp; omega
        have hd' : decide (2 * k + 1 < len1) = false := by simp; omega
        go_wp2_with fail
        refine (add_any w.heap.size w.heap.size k v L F (F + G) false false _ (HT.out.later (bl_alloc (bl_refl wr) _)) (by omega) (by have := hbl.size; simp; omega) hmay (by omega)).mono ?_
        rintro e w4 ⟨rfl, ⟨v', T4⟩, B4⟩
        have B5 : Below w.heap.size w w4 := (hbl.trans ((bl_alloc (bl_refl wr) (.cells #[.int .i64 F, .int .i64 (F + G), .bool false, .bool false, .int .i64 0] 43)).mono hbl.size)).trans B4
        have HT4 := hide T4
        have HO4 := hide (okL_snoc HO.out F (F + G) false false (by omega) (by omega) (by omega))
        rw [hLk] at HO4
        clear T4 HT HO
        go_wp2
        refine ⟨?_, by first | (simp [intOf]; done) | (simp [intOf]; omega)⟩
        exact ⟨k + 1, _, v', by go_num, by omega, by rw [List.length_append, hLk]; rfl, HT4, HO4, B5⟩
    · obtain rfl : k = l0.length := by omega
      go_wp2_with fail
      refine (twin_any w.heap.size w.heap.size _ v L _ HT.out (by omega)).mono ?_
      rintro e wt ⟨⟨tb2, v2, rfl, hU⟩, hbt⟩
      obtain ⟨BT, hBT⟩ : ∃ BT, BT = wr.heap.size := ⟨_, rfl⟩
      have hBT' : wr.heap.size ≤ BT := Nat.le_of_eq hBT.symm
      rw [← hBT] at hU
      have hU' := hide hU
      have HTt := hide (HT.out.later hbt)
      have HR := hide (okL_rise HO.out)
      have hbw : Below w.heap.size w wt := hbl.trans (hbt.mono hbl.size)
      have htlt : ∀ k, v.ownBlock = some k → k < wr.heap.size := fun k hk => (HT.out.own.lt k hk).2
      have hult : ∀ k, v2.ownBlock = some k → k < wt.heap.size := fun k hk => (hU.own.lt k hk).2
      have huge : ∀ k, v2.ownBlock = some k → wr.heap.size ≤ k := fun k hk => by have := (hU.own.lt k hk).1; omega
      have htge : ∀ k, v.ownBlock = some k → w.heap.size ≤ k := fun k hk => (HT.out.own.lt k hk).1
      have hwr : w.heap.size ≤ wr.heap.size := hbl.size
      have hwt : wr.heap.size ≤ wt.heap.size := hbt.size
      have HU := hU'
      clear hU hbl hbt hlt hk W1 hz1 hl1 T0 B0 hU'
      go_wp2
      go_loopw [16, 17, 18] (fun es at' i w5 => S2 len2 len3 wt.heap.size wt es at' i w5) (fun _ _ i _ => len2 - (intOf i).toNat)
      case atStart => exact ⟨0, 0, [], rfl, rfl, Nat.zero_le _, Nat.zero_le _, rfl, Int.le_refl _, by omega, hide ⟨rfl, .inl ⟨rfl, rfl⟩⟩, hide gth_nil, bl_refl wt⟩
      case round =>
        obtain ⟨k, X, l, rfl, rfl, hk2, hk3, hlk, hX0, hXS, HE, HG, hbx⟩ := hrel
        obtain ⟨aV, cV, hvE⟩ := own_slice HE.out
        by_cases hlt : k < len2 ∧ k < len3
        · obtain ⟨hlt2, hlt3⟩ := hlt
          have hd1 : decide ((k : Int) < (len2 : Int)) = true := by simp; omega
          have hd2 : decide ((k : Int) < (len3 : Int)) = true := by simp; omega
          have hbz : Below w.heap.size w wr := hbw.trans (hbx.mono (by have := hbw.size; omega))
          obtain ⟨b1, o1, hv1, hn1, hc1, hm1, hcell1⟩ := ints_cell (ints_below W2.out hbz) (by omega)
          subst hv1
          unfold maxLen at hm1
          obtain ⟨b2, o2, hv2, hn2, hc2, hm2, hcell2⟩ := strs_cell (strs_below W3.out hbz) (by omega)
          subst hv2
          unfold maxLen at hm2
          have x1 := hcell1 k (by omega)
          have y1 := hcell2 k (by omega)
          have hsz := HLM.out (z3.getD k ByteArray.empty) (by
            have e : z3.getD k ByteArray.empty = (z3.take len3)[k]'(by rw [List.length_take]; omega) := by
              rw [List.getElem_take]; simp [List.getD, show k < z3.length by omega]
            rw [e]; exact List.getElem_mem _)
          generalize z3.getD k ByteArray.empty = tx at *
          generalize z2.getD k 0 = g at *
          clear hcell1 hcell2
          subst hvE
          obtain ⟨P, hP⟩ : ∃ P : Int, (lowN g 6 : Int) = P := ⟨_, rfl⟩
          have hP1 : 0 ≤ P := by omega
          have hP2 : P < 6 := by have := lowN_lt g 6 (by omega); omega
          have HP := hide hP
          clear hP
          go_wp2_with fail
          refine (low_f g 6 6 P _ (by omega) (by omega) (by omega) HP.out).mono ?_
          rintro e w3 ⟨rfl, rfl⟩
          obtain ⟨Q, hQ⟩ : ∃ Q : Int, (lowN (g / 8) 5 : Int) = Q := ⟨_, rfl⟩
          have hQ1 : 0 ≤ Q := by omega
          have hQ2 : Q < 5 := by have := lowN_lt (g / 8) 5 (by omega); omega
          have HQ := hide hQ
          clear hQ
          go_wp2_with fail
          refine (low_f (g / 8) 5 5 Q _ (by omega) (by omega) (by omega) HQ.out).mono ?_
          rintro e w3 ⟨rfl, rfl⟩
          obtain ⟨i0, hi0, hz0', hz1, hz2'⟩ := info_parts info_ed
          have hfin : ∀ (v' : Value) (W : World), W.ownsRow wt.heap.size 61 3 v' (k + 1) (flatE l ++ [.int .i64 (X + 1 + P), .int .i64 (X + 1 + P + Q), .string tx]) → Hid (W.ownsRow wt.heap.size 61 3 v' (k + 1) (flatE (l ++ [((X + 1 + P, X + 1 + P + Q), tx)]))) := fun v' W h => hide (by rw [flatE_app]; exact h)
          have HFIN := hide hfin
          have HG2 := hide (gth_snoc (s := tx) HG.out (show X < X + 1 + P by omega) (show X + 1 + P ≤ X + 1 + P + Q by omega) (by omega))
          have hrow := HE.out
          have hll : (l ++ [((X + 1 + P, X + 1 + P + Q), tx)]).length = k + 1 := by rw [List.length_append, hlk]; rfl
          have hwBr : wt.heap.size ≤ wr.heap.size := hbx.size
          clear hfin x1 HP HQ
          go_wp2_with (at_builtin; (refine wpList_push wr rfl _ _ 35 rfl wt.heap.size 61 i0 (.agg #[.int .i64 0, .int .i64 0, .string ⟨#[]⟩]) 3 32 Try.underlying35 hi0 hz0' hz1 hz2' rfl (by decide) (.slice aV k cV) k (flatE l) rfl hrow 1 #[.int .i64 (X + 1 + P), .int .i64 (X + 1 + P + Q), .string tx] rfl rfl (by simp [Value.oneCell']) (by omega) (by decide) (by omega) ?_); intro v' w4 hv4 hg4 hat)
          have hb4 : Below wt.heap.size wt w4 := bl_own hbx hrow hg4 (Nat.le_refl _)
          refine ⟨?_, by first | (simp [intOf]; done) | (simp [intOf]; omega)⟩
          exact ⟨k + 1, X + 1 + P + Q, l ++ [((X + 1 + P, X + 1 + P + Q), tx)], by go_num, by first | rfl | trivial, by omega, by omega, hll, by omega, by omega, HFIN.out _ _ hv4, hide HG2.out, hb4⟩
        · have hd : (decide ((k : Int) < (len2 : Int)) = false) ∨ (decide ((k : Int) < (len2 : Int)) = true ∧ decide ((k : Int) < (len3 : Int)) = false) := by
            by_cases h : k < len2
            · exact .inr ⟨by simp; omega, by simp; omega⟩
            · exact .inl (by simp; omega)
          have HGD := hide (gthd HG.out (by omega))
          subst hvE
          have hEE := HE.out
          rw [← hlk] at hEE
          have HE2 := hide (own_edat hEE)
          rw [hlk] at HE2
          have HALL := hide (seqL_all l L HO.out HGD.out.sep (fun e he => (HGD.out.at' e he).2.1))
          have hp0 : ∀ r ∈ L, r.p ≠ r.id ∧ (-1099511627776 ≤ r.f ∧ r.f ≤ 1099511627776) ∧ (-1099511627776 ≤ r.t ∧ r.t ≤ 1099511627776) := fun r hr => by
            have := okL_mem HO.out r hr
            omega
          have HT5 := hide (HTt.out.later hbx)
          have HU5 := hide (HU.out.later hbx)
          have HMV := hide (tmove_fr w.heap.size w.heap.size _ v _ L l wr HT5.out HR.out (by omega) HE2.out (by omega) HGD.out.good HGD.out.may hp0)
          rw [HGD.out.sorted, HALL.out] at HMV
          have hbz : Below w.heap.size w wr := hbw.trans (hbx.mono (by omega))
          have hdk : Hid (k ≤ 10) := hide (by omega)
          have HLK := hide hlk
          clear hp0 hEE HALL HG hXS hX0 hlt hk2 hk3 hz2 hz3 HLM
          rcases hd with hd | ⟨hd, hd'⟩
          all_goals (try have hd2' : decide (k < len2) = false := by simp at hd ⊢; omega)
          all_goals (try have hd3' : decide (k < len2) = true := by simp at hd ⊢; omega)
          all_goals (try have hd4' : decide (k < len3) = false := by simp at hd' ⊢; omega)
          all_goals
            go_wp2_with fail
            refine HMV.out.mono ?_
            rintro e w6 ⟨rfl, hT6, hg6⟩
            have HU6 := hide (HU5.out.apart HT.out hBT' hg6)
            have HE6 := hide (own_far HE.out (fun k hk => by have := htlt k hk; omega) hg6)
            have HT6 := hide hT6
            have hb6 : Below w.heap.size w w6 := below_gr hbz (Nat.le_refl _) hg6 htge
            clear hT6 hg6 HMV HE2 HE HT5 HU5 hbx
            have HRs := hide (fun es => rise_ids (k := seqL es L) HR.out (seqL_ids es L))
            have hls : ∀ es, (seqL es L).length = l0.length := fun es => by unfold seqL; rw [List.length_map, hLk]
            obtain ⟨i1, hi1⟩ : ∃ i1, IntKind.i64.wrap ((k : Int) - 1) = i1 := ⟨_, rfl⟩
            have hst : (k = 0 ∧ i1 = -1) ∨ ∃ q, k = q + 1 ∧ i1 = (q : Int) := by
              have := hdk.out
              rw [IntWalk.i64_in _ (by omega)] at hi1
              rcases Nat.eq_zero_or_pos k with h | h
              · exact .inl ⟨h, by omega⟩
              · exact .inr ⟨k - 1, by omega, by omega⟩
            have HST := hide hst
            clear hst
            go_wp2
            go_loopw [21] (fun i w7 => S3 l L w.heap.size BT tb2 wt.heap.size k (l0.length : Int) v v2 (.slice aV k cV) w i w7) (fun i _ => (intOf i + 1).toNat)
            case atStart =>
              refine ⟨l.length, Nat.le_refl _, ?_, hide (by rw [List.drop_length, seqL_nil]; exact HU6.out), HT6, HE6, hb6⟩
              rcases HST.out with ⟨h1, h2⟩ | ⟨q, h1, h2⟩
              · exact .inl ⟨by rw [HLK.out]; exact h1, by rw [h2]⟩
              · exact .inr ⟨q, by rw [HLK.out]; exact h1, by rw [h2]⟩
            case round =>
              obtain ⟨j, hj, hcase, HU7, HT7, HE7, hb7⟩ := hrel
              rcases hcase with ⟨rfl, rfl⟩ | ⟨q, rfl, rfl⟩
              · have HU8 : Hid (Tab wr BT tb2 (l0.length : Int) v2 (seqL l L)) := hide (by have := HU7.out; rw [List.drop_zero] at this; exact this)
                clear HU7 HE7 HE6 HU6 HT6 HST
                go_wp2
                go_loopw [22] (fun i w7 => S4 (seqL l L) w.heap.size BT tb2 l0.length (l0.length : Int) v v2 w i w7) (fun i _ => ((l0.length : Int) + 1 - intOf i).toNat)
                case atStart => exact ⟨1, rfl, by omega, by omega, HU8, HT7, hb7⟩
                case round =>
                  obtain ⟨c, rfl, hc1, hc2, HUa, HTa, hba⟩ := hrel
                  by_cases hcn : c ≤ l0.length
                  · have hd5 : decide ((c : Int) ≤ (l0.length : Int)) = true := by simp; omega
                    have hd6 : decide (c ≤ l0.length) = true := by simp; omega
                    have hi0 : c - 1 < (seqL l L).length := by rw [hls]; omega
                    have hid := seqL_at l HO.out (c - 1) hi0
                    have hid' : (seqL l L)[c - 1].id = (c : Int) := by rw [hid]; omega
                    have HGA := hide (fun (r : Value) (ok : Bool) (h : GotM (seqL l L) c r ok) => got_at (HRs.out l) h (c - 1) hi0 hid')
                    clear hid hid'
                    generalize (seqL l L)[c - 1] = rr at *
                    obtain ⟨ri, rf, rt, rb, rc, rp⟩ := rr
                    go_wp2_with fail
                    refine (get_any w.heap.size w.heap.size _ v _ c _ HTa.out (HRs.out l) (by rw [hls]; omega)).mono ?_
                    rintro e wA ⟨⟨r, ok, rfl, hgot⟩, hbA⟩
                    obtain ⟨rfl, rfl⟩ := HGA.out _ _ hgot
                    have hbB : Below wr.heap.size wr (wA.alloc (.cells #[.int .i64 rf, .int .i64 rt, .bool rb, .bool rc, .int .i64 rp] 43)) := bl_alloc hbA _
                    have hUb := HUa.out.later hbB
                    have hsA := hbA.size
                    clear hgot
                    unfold vR
                    go_wp2_with fail
                    refine (get_any BT tb2 _ v2 _ c _ hUb (HRs.out l) (by rw [hls]; omega)).mono ?_
                    rintro e wC ⟨⟨r2, ok2, rfl, hgot2⟩, hbC⟩
                    obtain ⟨rfl, rfl⟩ := HGA.out _ _ hgot2
                    have hfA := (hbC.block wA.heap.size (by simp)).trans (heap_alloc_new wA (.cells #[.int .i64 rf, .int .i64 rt, .bool rb, .bool rc, .int .i64 rp] 43))
                    obtain ⟨p0, p1, p2, p3, p4, _⟩ := box5 hfA
                    have hltA := (Array.getElem?_eq_some_iff.1 hfA).1
                    have hbD := fun o => bl_alloc (bl_trans hbB hbC) o
                    have HUc := hide (fun o => HUa.out.later (hbD o))
                    have HTc := hide (fun o => HTa.out.later (hbD o))
                    have HBc := hide (fun o => hba.trans ((hbD o).mono hba.size))
                    clear hgot2 hUb hfA HGA hbC hbA hbB hbD
                    unfold vR
                    go_wp2
                    refine ⟨?_, by first | (simp [intOf]; done) | (simp [intOf]; omega)⟩
                    exact ⟨c + 1, by go_num, by omega, by omega, hide (HUc.out _), hide (HTc.out _), HBc.out _⟩
                  · have hd5 : decide ((c : Int) ≤ (l0.length : Int)) = false := by simp; omega
                    have hd6 : decide (c ≤ l0.length) = false := by simp; omega
                    go_wp2_with fail
                    refine (awake7_any _).mono ?_
                    rintro e wz ⟨rfl, hbz2⟩
                    have hfz := hba.trans (hbz2.mono hba.size)
                    go_wp2
                    go_ret
                    exact ⟨rfl, hfz⟩
              · have hq : q < l.length := by omega
                have hEE := HE7.out
                rw [← HLK.out] at hEE
                obtain ⟨b3, o3, c3, hv3, hc3, hm3, hlb3, hcell3⟩ := edat_some (own_edat hEE) (by omega)
                injection hv3 with hv3 _ hv3c
                subst hv3 hv3c
                unfold maxLen at hm3
                obtain ⟨x1, x2, x3⟩ := hcell3 q hq
                have hge := HGD.out.good l[q] (List.getElem_mem hq)
                have hat := HGD.out.at' l[q] (List.getElem_mem hq)
                have hstep := seqL_step l L HO.out q hq
                have hqk : q < k := by rw [← HLK.out]; exact hq
                have hck : k ≤ cV := by rw [← HLK.out]; exact hc3
                clear hcell3 hEE
                generalize l[q] = e0 at *
                obtain ⟨⟨f, t⟩, x⟩ := e0
                replace x1 : wr.cell? ⟨b3, o3 + q * 3, none⟩ = some (.int .i64 f) := x1
                replace x2 : wr.cell? ⟨b3, o3 + q * 3 + 1, none⟩ = some (.int .i64 t) := x2
                replace x3 : wr.cell? ⟨b3, o3 + q * 3 + 2, none⟩ = some (.string x) := x3
                obtain ⟨ht1, ht2, ht3, ht4⟩ := hat
                simp only at ht1 ht2 ht3 ht4
                have hU8 := HU7.out.later (bl_alloc (bl_refl wr) (.cells #[.int .i64 f, .int .i64 t, .string x] 61))
                have hp := seqL_hp (l.drop (q + 1)) L HO.out (by rw [List.length_drop]; have := hdk.out; have := HLK.out; omega) (fun e he => HGD.out.at' e (List.mem_of_mem_drop he))
                have HMU := hide (tmove_fr BT tb2 (l0.length : Int) v2 _ (seqL (l.drop (q + 1)) L) [((f, t), x)] _ hU8 (HRs.out _) (by rw [hls]; omega) (alloc1 wr f t x) (by simp) (fun e he => by rw [List.mem_singleton] at he; subst he; exact hge) (mayN_one f t x ht1 ht2 (by omega)) hp)
                rw [hstep] at HMU
                have hba : Below wr.heap.size wr (wr.alloc (.cells #[.int .i64 f, .int .i64 t, .string x] 61)) := bl_alloc (bl_refl wr) _
                have hfin : ∀ (i : Value) (W : World), ((q = 0 ∧ i = .int .i64 (-1)) ∨ (∃ p : Nat, q = p + 1 ∧ i = .int .i64 p)) → Tab W BT tb2 (l0.length : Int) v2 (seqL (l.drop q) L) → (wr.alloc (.cells #[.int .i64 f, .int .i64 t, .string x] 61)).grownBy W v2.ownBlock → S3 l L w.heap.size BT tb2 wt.heap.size k (l0.length : Int) v v2 (.slice (some ⟨b3, o3, none⟩) k cV) w i W := fun i W hi hU hg =>
                  ⟨q, by omega, hi, hide hU, hide ((HT7.out.later hba).apart' HT.out hBT' hU8 hg), hide (own_far (own_below HE7.out hba) hult hg), below_gr (hb7.trans (hba.mono hb7.size)) (Nat.le_refl _) hg (fun k hk => by have := huge k hk; omega)⟩
                have HFIN := hide hfin
                clear hfin hstep hge hp hU8 HU7 HT7 HE7 hba
                rcases Nat.eq_zero_or_pos q with h0 | h0
                · subst h0
                  rw [Nat.zero_mul, Nat.add_zero] at x1 x2 x3
                  go_wp2_with fail
                  refine HMU.out.mono ?_
                  rintro e w8 ⟨rfl, hU9, hg9⟩
                  have hS := hide (HFIN.out (.int .i64 (-1)) w8 (by first | exact .inl ⟨rfl, rfl⟩ | exact .inl ⟨trivial, rfl⟩ | simp) hU9 hg9)
                  clear HFIN hU9 hg9 HMU x1 x2 x3
                  go_wp2
                  refine ⟨?_, by first | (simp [intOf]; done) | (simp [intOf]; omega)⟩
                  exact hS.out
                · obtain ⟨p, rfl⟩ : ∃ p, q = p + 1 := ⟨q - 1, by omega⟩
                  have hwp : IntKind.i64.wrap ((p : Int) + 1 - 1) = (p : Int) := by have := hdk.out; rw [IntWalk.i64_in _ (by omega)]; omega
                  go_wp2_with fail
                  refine HMU.out.mono ?_
                  rintro e w8 ⟨rfl, hU9, hg9⟩
                  have hS := hide (HFIN.out (.int .i64 p) w8 (.inr ⟨p, rfl, rfl⟩) hU9 hg9)
                  clear HFIN hU9 hg9 HMU x1 x2 x3
                  go_wp2
                  refine ⟨?_, by first | (simp [intOf]; done) | (simp [intOf]; omega)⟩
                  exact hS.out

set_option maxRecDepth 100000 in
theorem lifted (os : Os) (started : os.Started) (H : Type) (enc : TypeId × Value → H) :
    ReturnsInHanded {} Try.checked os 7 .any (Rows.marksSinglySpec.pre6 enc Try.prog Try.f7 Rows.marksSinglyRow.domain false) (Rows.marksSinglySpec.post enc Try.prog Try.f7 false true false false) := by
  refine returnsInHanded_of_change (C := Try.checked) own started (by kernel_rfl) Try.func7
    (ChangeSpec.witness6 (enc := enc) (C := Try.checked) false ⟨#[], #[.slice none 0 0, .slice none 0 0, .slice none 0 0, .slice none 0 0], []⟩ 8 (by kernel_rfl) (by kernel_rfl) (by kernel_rfl) (by kernel_rfl)) ?_
  intro W base args ds gs before hval0 hW hcnd _
  have hval : ∀ (j : Nat) t v, Try.f7.params[j]? = some t → args[j]? = some v → Value.okWide Try.prog W .any base t v := hval0
  have hW' := hW
  obtain ⟨p, q, hA0, hV, rfl, hfz, hnd⟩ := hW
  have hA : DataW.TrodAll enc Try.prog W 0 (fun _ => true) true Try.f7.params.toList args.toList ds p := hA0
  rw [Try.params7] at hA hval
  obtain ⟨v0, vs0, d0, ds0, p0, q0, hargs, rfl, rfl, h0, r0⟩ := trodAll_cons hA
  obtain ⟨v1, vs1, d1, ds1, p1, q1, rfl, rfl, rfl, h1, r1⟩ := trodAll_cons r0
  obtain ⟨v2, vs2, d2, ds2, p2, q2, rfl, rfl, rfl, h2, r2⟩ := trodAll_cons r1
  obtain ⟨v3, vs3, d3, ds3, p3, q3, rfl, rfl, rfl, h3, r3⟩ := trodAll_cons r2
  obtain ⟨rfl, rfl, rfl⟩ := trodAll_nil r3
  obtain rfl : args = #[v0, v1, v2, v3] := by cases args; simp_all
  obtain ⟨rfl, rfl⟩ := trodVars_none hV
  have k0 := h0
  have lt0 : ∀ x ∈ p0, x.block < W.heap.size := by obtain ⟨m, hm⟩ := k0; exact DataW.trod_lt m _ _ _ hm
  obtain ⟨l0, w0, b0⟩ := open_pairs (hval 0 53 v0 rfl rfl) h0
  have k1 := h1
  have lt1 : ∀ x ∈ p1, x.block < W.heap.size := by obtain ⟨m, hm⟩ := k1; exact DataW.trod_lt m _ _ _ hm
  obtain ⟨a1, len1, cap1, rfl⟩ := okWide_slice Try.underlying54 (hval 1 54 v1 rfl rfl)
  obtain ⟨z1, w1⟩ : ∃ zs, IsBools W a1 len1 cap1 zs := by
    obtain ⟨fuel, hf⟩ := h1
    rcases open_bools Try.underlying54 Try.underlying4 (by kernel_rfl) hf with ⟨hcs, _⟩ | ⟨x, l, c, B, hcs, _, hl, hm, _, hcell⟩
    · simp [Value.cells] at hcs
      obtain ⟨rfl, rfl, rfl⟩ := hcs
      exact ⟨[], .inl ⟨rfl, rfl, rfl, rfl⟩⟩
    · simp [Value.cells] at hcs
      obtain ⟨rfl, rfl, rfl⟩ := hcs
      exact ⟨(List.range cap1).map B, .inr ⟨_, rfl, hl, hm, by simp, fun i hi => by rw [hcell i (by simpa using hi)]; simp only [List.length_map, List.length_range] at hi; simp [List.getD, hi]⟩⟩
  have k2 := h2
  have lt2 : ∀ x ∈ p2, x.block < W.heap.size := by obtain ⟨m, hm⟩ := k2; exact DataW.trod_lt m _ _ _ hm
  obtain ⟨a2, len2, cap2, rfl⟩ := okWide_slice Try.underlying28 (hval 2 28 v2 rfl rfl)
  obtain ⟨z2, w2⟩ : ∃ zs, IsInts .i64 W a2 len2 cap2 zs := by
    obtain ⟨fuel, hf⟩ := h2
    rcases open_ints Try.underlying28 Try.underlying3 (by kernel_rfl) hf with ⟨hcs, _⟩ | ⟨x, l, c, zs, hcs, _, hl, hm, hz, _, hcell, hwz⟩
    · simp [Value.cells] at hcs
      obtain ⟨rfl, rfl, rfl⟩ := hcs
      exact ⟨[], .inl ⟨rfl, rfl, rfl, rfl⟩⟩
    · simp [Value.cells] at hcs
      obtain ⟨rfl, rfl, rfl⟩ := hcs
      exact ⟨zs, .inr ⟨_, rfl, hl, hm, by simpa using hz, hcell, hwz⟩⟩
  have k3 := h3
  have lt3 : ∀ x ∈ p3, x.block < W.heap.size := by obtain ⟨m, hm⟩ := k3; exact DataW.trod_lt m _ _ _ hm
  obtain ⟨a3, len3, cap3, rfl⟩ := okWide_slice Try.underlying55 (hval 3 55 v3 rfl rfl)
  obtain ⟨z3, w3⟩ : ∃ zs, IsStrs W a3 len3 cap3 zs := by
    obtain ⟨fuel, hf⟩ := h3
    rcases open_strings Try.underlying55 Try.underlying9 (by kernel_rfl) hf with ⟨hcs, _⟩ | ⟨x, l, c, zs, hcs, _, hl, hm, hz, _, hcell, hwz⟩
    · simp [Value.cells] at hcs
      obtain ⟨rfl, rfl, rfl⟩ := hcs
      exact ⟨[], .inl ⟨rfl, rfl, rfl, rfl⟩⟩
    · simp [Value.cells] at hcs
      obtain ⟨rfl, rfl, rfl⟩ := hcs
      exact ⟨zs, .inr ⟨_, rfl, hl, hm, by simpa using hz, hcell, hwz⟩⟩
  clear hA0 hval0
  refine (walk v0 l0 a1 len1 cap1 z1 a2 len2 cap2 z2 a3 len3 cap3 z3 W w0 b0 w1 w2 w3).mono fun e W' ⟨he, bel⟩ => ?_
  subst he
  exact ⟨_, rfl, _, _, _, [], _, [], hW', trodAll_mk1 (shut_bool Try.underlying4 _), (trodAll_cons_mk (Below.trod laidOut (by kernel_rfl) (of_decide_eq_true (by kernel_rfl)) k0 bel lt0) (trodAll_cons_mk (Below.trod laidOut (by kernel_rfl) (of_decide_eq_true (by kernel_rfl)) k1 bel lt1) (trodAll_cons_mk (Below.trod laidOut (by kernel_rfl) (of_decide_eq_true (by kernel_rfl)) k2 bel lt2) (trodAll_cons_mk (Below.trod laidOut (by kernel_rfl) (of_decide_eq_true (by kernel_rfl)) k3 bel lt3) trodAll_mk0)))), rfl, bel.frame _, fun h => by cases h⟩

theorem over : Rows.marksSinglyRow.holds Try.pinned (OpenSpec.ofChange Rows.marksSinglySpec) :=
  OpenClaim.holds_of_wide 7 Try.f7 rfl rfl rfl rfl rfl rfl rfl ⟨rfl, rfl, rfl, rfl, rfl⟩ rfl rfl rfl rfl rfl (by kernel_rfl) Try.func7 (by kernel_rfl)
    (of_decide_eq_true (by kernel_rfl)) (by unfold Func.isWrapper; first | (rw [if_pos (by decide +kernel)]; kernel_rfl) | (rw [if_neg (by decide +kernel)]; exact ⟨rfl, rfl⟩))
    (fun os started H enc _ => lifted os started H enc)

theorem proved : Rows.MarksSinglySaid := over
end Go.Proofs.Ytjmoeahlbgdkbaa.marksSingly
