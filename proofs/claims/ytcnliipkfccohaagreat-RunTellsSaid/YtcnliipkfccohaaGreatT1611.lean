/- Plain facts: a text's characters lie between its places. No condition. And 4 texts more. -/
import Derived.Test.YtcnliipkfccohaaGreatT1610
import Derived.Deep.RegionHeld3
import Derived.Deep.DrawnRows
import Derived.BigRegion
import Derived.BigQuiet
import Derived.Deep.RegionLaw
import Derived.Deep.AppendLies
import Derived.Test.YtcnliipkfccohaaGreatT167
import Derived.Test.YtcnliipkfccohaaGreatT164
namespace Go.Proofs.YtcnliipkfccohaaGreat
end Go.Proofs.YtcnliipkfccohaaGreat
namespace Go.Proofs.YtcnliipkfccohaaGreat.SetM
end Go.Proofs.YtcnliipkfccohaaGreat.SetM
namespace Go.Proofs.YtcnliipkfccohaaGreat.SpanM
end Go.Proofs.YtcnliipkfccohaaGreat.SpanM
section
namespace Go.Proofs.YtcnliipkfccohaaGreat
open SetM SpanM
set_option linter.unusedVariables false
def psumL : Nat → List (List UInt8) → List Nat
  | k, [] => [k]
  | k, c :: r => k :: psumL (k + c.length) r
theorem psum_len : ∀ (cs : List (List UInt8)) (k : Nat), (psumL k cs).length = cs.length + 1
  | [], k => rfl
  | c :: r, k => by rw [psumL, List.length_cons, psum_len r, List.length_cons]
theorem plGo_skip : ∀ (t r : List UInt8) (k : Nat), 0 < k → (∀ c ∈ t, contB c = true) → plGo (t ++ r) k = plGo r (k + t.length)
  | [], r, k, h0, ht => rfl
  | c :: t, r, k, h0, ht => by
    rw [List.cons_append, plGo, if_neg (by rw [ht c List.mem_cons_self]; simp; omega), plGo_skip t r (k + 1) (by omega) (fun d hd => ht d (List.mem_cons_of_mem _ hd)), List.length_cons]
    congr 1; omega
theorem tw_cont (l : List UInt8) : ∀ c ∈ l.takeWhile contB, contB c = true := by
  induction l with
  | nil => intro c h; cases h
  | cons a r ih =>
    intro c h
    rw [List.takeWhile_cons] at h
    split at h
    · rename_i ha
      rcases List.mem_cons.1 h with rfl | h
      · exact ha
      · exact ih c h
    · cases h
theorem tw_next (l : List UInt8) (c : UInt8) (r : List UInt8) (h : l.drop (l.takeWhile contB).length = c :: r) : contB c = false := by
  induction l with
  | nil => cases h
  | cons a t ih =>
    rw [List.takeWhile_cons] at h
    split at h
    · rw [List.length_cons, List.drop_succ_cons] at h; exact ih h
    · rename_i ha
      rw [List.length_nil, List.drop_zero] at h
      injection h with h _
      subst h
      exact Bool.eq_false_iff.2 ha
theorem pl_split : ∀ (n : Nat) (l : List UInt8) (k : Nat), l.length ≤ n → (k = 0 ∨ ∀ c r, l = c :: r → contB c = false) → plGo l k = psumL k (splitL l)
  | _, [], k, _, _ => rfl
  | 0, c :: r, k, h, _ => by simp at h
  | n + 1, c :: r, k, h, hb => by
    have h1 : splitL (c :: r) = ([c] ++ r.takeWhile contB) :: splitL (r.drop (r.takeWhile contB).length) := chGo_eq r [c]
    have h2 : plGo (c :: r) k = k :: plGo r (k + 1) := by
      rw [plGo, if_pos]
      rcases hb with hb | hb
      · exact .inl hb
      · exact .inr (hb c r rfl)
    rw [h1, h2, psumL]
    congr 1
    have h3 : r = r.takeWhile contB ++ r.drop (r.takeWhile contB).length := by
      conv => lhs; rw [← List.take_append_drop (r.takeWhile contB).length r]
      congr 1
      exact (List.prefix_iff_eq_take.1 (List.takeWhile_prefix _)).symm
    have h4 : plGo r (k + 1) = plGo (r.drop (r.takeWhile contB).length) (k + 1 + (r.takeWhile contB).length) := by
      conv => lhs; rw [h3]
      exact plGo_skip _ _ _ (by omega) (tw_cont r)
    rw [h4, pl_split n _ _ (by rw [List.length_drop]; simp at h; omega) (.inr (fun d s hd => tw_next r d s hd))]
    congr 1
    simp; omega
theorem ba_ext {a b : ByteArray} (h : a.data.toList = b.data.toList) : a = b := by
  cases a with
  | mk x => cases b with
    | mk y => simp at h; rw [h]
theorem spl_flat : ∀ (n : Nat) (l : List UInt8), l.length ≤ n → (splitL l).flatten = l
  | _, [], _ => rfl
  | 0, c :: r, h => by simp at h
  | n + 1, c :: r, h => by
    have h1 : splitL (c :: r) = ([c] ++ r.takeWhile contB) :: splitL (r.drop (r.takeWhile contB).length) := chGo_eq r [c]
    rw [h1, List.flatten_cons, spl_flat n _ (by rw [List.length_drop]; simp at h; omega)]
    have h2 : r.takeWhile contB = r.take (r.takeWhile contB).length := List.prefix_iff_eq_take.1 (List.takeWhile_prefix _)
    conv => lhs; lhs; rw [h2]
    rw [List.append_assoc, List.take_append_drop]; rfl
theorem psum_get : ∀ (cs : List (List UInt8)) (k i : Nat) (h : i < cs.length), (psumL k cs)[i]? = some (k + (cs.take i).flatten.length) ∧ (psumL k cs)[i + 1]? = some (k + (cs.take i).flatten.length + (cs[i]).length)
  | [], k, i, h => by simp at h
  | c :: r, k, 0, h => by
    refine ⟨by simp [psumL], ?_⟩
    cases r with
    | nil => simp [psumL]
    | cons d s => simp [psumL]
  | c :: r, k, i + 1, h => by
    have := psum_get r (k + c.length) i (by simpa using h)
    constructor
    · rw [psumL, List.getElem?_cons_succ, this.1]; simp; omega
    · rw [psumL, List.getElem?_cons_succ, this.2]; simp; omega
theorem flat_cut (cs : List (List UInt8)) (i : Nat) (h : i < cs.length) : (cs.flatten.take ((cs.take i).flatten.length + cs[i].length)).drop (cs.take i).flatten.length = cs[i] := by
  have e : cs.flatten = (cs.take i).flatten ++ (cs[i] ++ (cs.drop (i + 1)).flatten) := by
    have h1 : (cs.take i ++ cs.drop i).flatten = cs.flatten := by rw [List.take_append_drop]
    rw [← h1, List.flatten_append, List.drop_eq_getElem_cons h, List.flatten_cons]
  have e2 : cs.flatten.take ((cs.take i).flatten.length + cs[i].length) = (cs.take i).flatten ++ cs[i] := by
    rw [e, ← List.append_assoc, ← List.length_append, List.take_left]
  rw [e2, List.drop_left]
theorem char_place {s : ByteArray} {zs : List ByteArray} (hz : zs.map (fun z => z.data.toList) = splitL s.data.toList) : zs.length + 1 = (psS s).length ∧ ∀ i (h : i < zs.length), chG s (psS s) i = zs[i] := by
  have hp : psS s = psumL 0 (splitL s.data.toList) := pl_split _ _ 0 (Nat.le_refl _) (.inl rfl)
  refine ⟨by rw [hp, psum_len, ← hz, List.length_map], fun i hi => ?_⟩
  have hi2 : i < (splitL s.data.toList).length := by rw [← hz, List.length_map]; exact hi
  obtain ⟨g1, g2⟩ := psum_get (splitL s.data.toList) 0 i hi2
  have hf : (splitL s.data.toList).flatten = s.data.toList := spl_flat _ _ (Nat.le_refl _)
  unfold chG
  rw [hp, List.getD_eq_getElem?_getD, List.getD_eq_getElem?_getD, g1, g2, Option.getD_some, Option.getD_some, Nat.zero_add]
  have h1 : (s.extract ((List.take i (splitL s.data.toList)).flatten.length) ((List.take i (splitL s.data.toList)).flatten.length + ((splitL s.data.toList)[i]).length)).data.toList = zs[i].data.toList := by
    rw [ext_data]
    have h2 := flat_cut (splitL s.data.toList) i hi2
    rw [hf] at h2
    rw [h2]
    have h3 : (zs.map (fun z => z.data.toList))[i]? = (splitL s.data.toList)[i]? := by rw [hz]
    rw [List.getElem?_map, List.getElem?_eq_getElem hi, List.getElem?_eq_getElem hi2] at h3
    exact (Option.some.inj h3).symm
  exact ba_ext h1
end Go.Proofs.YtcnliipkfccohaaGreat
end
section
namespace Go.Proofs.YtcnliipkfccohaaGreat
open Go.ChangeShapes Go.WideShapes Go.ChangeAt Go.RowKit
open SetM SpanM
attribute [local go_sem ↓] Go.wp_at_zero Go.wp_at_succ
set_option maxRecDepth 100000
set_option linter.unusedVariables false
attribute [local go_sem] later_cell later_frozen
section
variable (offs : Nat → Int) (tk tk' : Rt → Nat → Option Nat) (N : Nat)
mutual
  theorem on_cong (hT : ∀ x i n, tk x i = some n → i ≤ N → i + n ≤ N) (hE : ∀ x i, i ≤ N → tk x i = tk' x i) : ∀ {f : Nat} {ks : List Kt} {i : Nat} {p : List (Int × Int)} {r : Ro}, On offs tk f ks i p r → i ≤ N → On offs tk' f ks i p r
    | _, _, _, _, _, .nil f i p, hi => .nil f i p
    | _, _, _, _, _, .ended f g b ks i p r h, hi => .ended f g b ks i p r (on_cong hT hE h hi)
    | _, _, _, _, _, .stuck f x g m b ks i p h1 h2, hi => .stuck f x g m b ks i p h1 h2
    | _, _, _, _, _, .again f x g m b ks i p r h1 h, hi => .again f x g m b ks i p r h1 (onr_cong hT hE h hi)
    | _, _, _, _, _, .seq f x g ks i p r hk h, hi => .seq f x g ks i p r hk (on_cong hT hE h hi)
    | _, _, _, _, _, .alt f x g ks i p r hk h, hi => .alt f x g ks i p r hk (ona_cong hT hE h hi)
    | _, _, _, _, _, .rep f x g ks i p r hk h, hi => .rep f x g ks i p r hk (onr_cong hT hE h hi)
    | _, _, _, _, _, .dry x g ks i p hk, hi => .dry x g ks i p hk
    | _, _, _, _, _, .group f x y g ks i p r hk hy h, hi => .group f x y g ks i p r hk hy (on_cong hT hE h hi)
    | _, _, _, _, _, .bare f x y g ks i p r hk hy h, hi => .bare f x y g ks i p r hk hy (on_cong hT hE h hi)
    | _, _, _, _, _, .no f x g ks i p hk ht, hi => .no f x g ks i p hk (by rw [← hE x i hi]; exact ht)
    | _, _, _, _, _, .yes f x g ks i p n r hk ht h, hi => .yes f x g ks i p n r hk (by rw [← hE x i hi]; exact ht) (on_cong hT hE h (hT x i n ht hi))
  theorem ona_cong (hT : ∀ x i n, tk x i = some n → i ≤ N → i + n ≤ N) (hE : ∀ x i, i ≤ N → tk x i = tk' x i) : ∀ {f : Nat} {l : List Rt} {g : Nat} {ks : List Kt} {i : Nat} {p : List (Int × Int)} {r : Ro}, OnA offs tk f l g ks i p r → i ≤ N → OnA offs tk' f l g ks i p r
    | _, _, _, _, _, _, _, .nil f g ks i p, hi => .nil f g ks i p
    | _, _, _, _, _, _, _, .done f x l g ks i p r h hr, hi => .done f x l g ks i p r (on_cong hT hE h hi) hr
    | _, _, _, _, _, _, _, .next f f' x l g ks i p r h h2, hi => .next f f' x l g ks i p r (on_cong hT hE h hi) (ona_cong hT hE h2 hi)
  theorem onr_cong (hT : ∀ x i n, tk x i = some n → i ≤ N → i + n ≤ N) (hE : ∀ x i, i ≤ N → tk x i = tk' x i) : ∀ {f : Nat} {x : Rt} {g many : Nat} {ks : List Kt} {i : Nat} {p : List (Int × Int)} {r : Ro}, OnR offs tk f x g many ks i p r → i ≤ N → OnR offs tk' f x g many ks i p r
    | _, _, _, _, _, _, _, _, .must f x g m ks i p r h1 h, hi => .must f x g m ks i p r h1 (ont_cong hT hE h hi)
    | _, _, _, _, _, _, _, _, .full f x g m ks i p r h1 h2 h, hi => .full f x g m ks i p r h1 h2 (on_cong hT hE h hi)
    | _, _, _, _, _, _, _, _, .lazyD f x g m ks i p r h1 h2 hl h hr, hi => .lazyD f x g m ks i p r h1 h2 hl (on_cong hT hE h hi) hr
    | _, _, _, _, _, _, _, _, .lazyN f f' x g m ks i p r h1 h2 hl h h3, hi => .lazyN f f' x g m ks i p r h1 h2 hl (on_cong hT hE h hi) (ont_cong hT hE h3 hi)
    | _, _, _, _, _, _, _, _, .moreD f x g m ks i p r h1 h2 hl h hr, hi => .moreD f x g m ks i p r h1 h2 hl (ont_cong hT hE h hi) hr
    | _, _, _, _, _, _, _, _, .moreN f f' x g m ks i p r h1 h2 hl h h3, hi => .moreN f f' x g m ks i p r h1 h2 hl (ont_cong hT hE h hi) (on_cong hT hE h3 hi)
  theorem ont_cong (hT : ∀ x i n, tk x i = some n → i ≤ N → i + n ≤ N) (hE : ∀ x i, i ≤ N → tk x i = tk' x i) : ∀ {f : Nat} {x : Rt} {g many : Nat} {ks : List Kt} {i : Nat} {p : List (Int × Int)} {r : Ro}, OnT offs tk f x g many ks i p r → i ≤ N → OnT offs tk' f x g many ks i p r
    | _, _, _, _, _, _, _, _, .mk f x y g m ks i p r hy h, hi => .mk f x y g m ks i p r hy (on_cong hT hE h hi)
end
end
theorem tk_eqR {s : ByteArray} {zs : List ByteArray} {fold : Bool} (hl : zs.length + 1 = (psS s).length) (hc : ∀ i (h : i < zs.length), chG s (psS s) i = zs[i]) (x : Rt) (i : Nat) (hi : i ≤ zs.length) : tkG s (psS s) fold x i = tkR zs fold x i := by
  have hg : ∀ j, j < zs.length → zs.getD j ⟨#[]⟩ = chG s (psS s) j := fun j hj => by rw [hc j hj, List.getD_eq_getElem?_getD, List.getElem?_eq_getElem hj]; rfl
  have he : edgeG s (psS s) i = edR zs i := by
    unfold edgeG edR
    have h1 : (decide (0 < i) && wdB (chG s (psS s) (i - 1)).data.toList) = (decide (0 < i) && wdB (zs.getD (i - 1) ⟨#[]⟩).data.toList) := by
      by_cases h0 : 0 < i
      · rw [hg (i - 1) (by omega)]
      · simp [h0]
    have h2 : (decide (i + 1 < (psS s).length) && wdB (chG s (psS s) i).data.toList) = (decide (i < zs.length) && wdB (zs.getD i ⟨#[]⟩).data.toList) := by
      by_cases h0 : i < zs.length
      · rw [hg i h0, decide_eq_true h0, decide_eq_true (show i + 1 < (psS s).length by omega)]
      · rw [decide_eq_false h0, decide_eq_false (show ¬ i + 1 < (psS s).length by omega)]; rfl
    rw [h1, h2]
  unfold tkG tkR
  rw [he]
  by_cases h0 : i < zs.length
  · rw [hg i h0, if_pos h0, if_pos (show i + 1 < (psS s).length by omega)]
    by_cases h9 : x.k = 9
    · rw [if_neg (show ¬ i + 1 = (psS s).length by omega), if_neg (show ¬ i = zs.length by omega)]
    · rw [if_neg h9, if_neg h9]
  · rw [if_neg h0, if_neg (show ¬ i + 1 < (psS s).length by omega)]
    have e1 : i + 1 = (psS s).length := by omega
    have e2 : i = zs.length := by omega
    rw [if_pos e1, if_pos e2]
structure Rn.Tx (Z : Rn) (s : ByteArray) : Prop where
  ok : Z.Ok
  cs : Z.cs.map (fun z => z.data.toList) = splitL s.data.toList
  ps : Z.ps = psS s
theorem Rn.Tx.on {Z : Rn} {s : ByteArray} (h : Z.Tx s) {f i : Nat} {ks : List Kt} {p : List (Int × Int)} {r : Ro} (ho : On (ofG (psS s)) (tkG s (psS s) Z.fold) f ks i p r) (hi : i ≤ Z.cs.length) : On Z.of (tkR Z.cs Z.fold) f ks i p r := by
  obtain ⟨h1, h2⟩ := char_place h.cs
  have hof : Z.of = ofG (psS s) := by funext j; unfold Rn.of ofG; rw [h.ps]
  rw [hof]
  refine on_cong _ _ _ Z.cs.length (fun x i n ht hi => ?_) (fun x i hi => tk_eqR h1 h2 x i hi) ho hi
  rw [tk_eqR h1 h2 x i hi] at ht
  exact (tkR_le hi ht).2
def StPost (fold : Bool) (s : ByteArray) (fuel : Int) (w : World) (e : Ending) (w' : World) : Prop := ∃ Z : Rn, e = .returned (.pointer (some ⟨Z.rb, 0, none⟩)) ∧ Below w.heap.size w w' ∧ Z.W0 = w ∧ Z.fold = fold ∧ Z.Tx s ∧ RnI Z w' (min (max fuel 0) 20000).toNat false
def StPost' (fold : Bool) (s : ByteArray) (F : Nat) (w : World) (e : Ending) (w' : World) : Prop := ∃ Z : Rn, e = .returned (.pointer (some ⟨Z.rb, 0, none⟩)) ∧ Below w.heap.size w w' ∧ Z.W0 = w ∧ Z.fold = fold ∧ Z.Tx s ∧ RnI Z w' F false
set_option maxHeartbeats 4000000 in
theorem start_any (fold : Bool) (s : ByteArray) (fuel : Int) (hs : s.size ≤ 999) (w : World) : Calls Tryz.prog 43 #[.bool fold, .string s, .int .i64 fuel] w (StPost fold s fuel w) := by
  have HSP := hide (fun W => rsplit_any s W (by omega))
  have HPL := hide (fun W => rplaces_any s W (by omega))
  unfold SPost at HSP
  unfold PlPost at HPL
  have HS := hide hs
  obtain ⟨F, hF⟩ : ∃ n, (min (max fuel 0) 20000).toNat = n := ⟨_, rfl⟩
  have hF2 : min (max fuel 0) 20000 = (F : Int) := by omega
  unfold StPost
  rw [hF]
  clear hF hs
  go_enter Tryz.func43, Tryz.ntmps43
  go_wp2_with fail
  refine (HSP.out _).mono ?_
  rintro e w1 ⟨v, zs, rfl, hb1, hown, hzs⟩
  obtain ⟨A, c, rfl⟩ := own_slice hown
  go_wp2_with fail
  refine (HPL.out _).mono ?_
  rintro e w2 ⟨v2, ps, rfl, hb2, hown2, hps⟩
  obtain ⟨A2, c2, rfl⟩ := own_slice hown2
  have hb12 := bl_trans hb1 hb2
  have ho1 := own_below hown hb2
  have hpe : ps = psS s := hps.out.symm
  obtain ⟨h1, h2⟩ := char_place hzs.out
  have hpl : (psS s).length ≤ 1000 := by have h3 := (plGo_in s.data.toList 0).2.2.1; have h4 : s.data.toList.length = s.size := Array.length_toList; have := HS.out; unfold psS; omega
  have hsz : ∀ z ∈ zs, z.size ≤ 1000 := fun z hz => by
    have h5 : z.data.toList ∈ splitL s.data.toList := by rw [← hzs.out]; exact List.mem_map.2 ⟨z, hz, rfl⟩
    have h6 := (List.sublist_flatten_of_mem h5).length_le
    rw [spl_flat _ _ (Nat.le_refl _)] at h6
    have h7 : z.data.toList.length = z.size := Array.length_toList
    have h8 : s.data.toList.length = s.size := Array.length_toList
    have := HS.out
    omega
  have HFIN := hide (show StPost' fold s F w (.returned (.pointer (some ⟨w2.heap.size, 0, none⟩))) (w2.alloc (.cells #[.slice A zs.length c, .slice A2 ps.length c2, .bool fold, .int .i64 ((F : Nat) : Int), .bool false] 101)) from
    ⟨⟨w, w2.heap.size, A, c, A2, c2, zs, ps, fold⟩, rfl, bl_alloc hb12 _, rfl, rfl, ⟨⟨by rw [hpe]; exact h1, by rw [hpe]; exact hpl, hsz⟩, hzs.out, hpe⟩,
      ⟨bl_alloc hb12 _, hb12.size, cm_new [.slice A zs.length c, .slice A2 ps.length c2, .bool fold, .int .i64 ((F : Nat) : Int), .bool false] _ rfl, own_base (own_below ho1 (bl_alloc (bl_refl w2) _)) (Nat.zero_le _), fun e => Nat.lt_irrefl _ (ho1.lt _ e).2, own_base (own_below hown2 (bl_alloc (bl_refl w2) _)) (Nat.zero_le _), fun e => Nat.lt_irrefl _ (hown2.lt _ e).2⟩⟩)
  clear hb1 hown hzs hb2 hown2 hps hb12 ho1 hpe h1 h2 hpl hsz
  go_wp2
  go_ret
  exact HFIN.out
set_option maxHeartbeats 4000000 in
theorem place_any {Z : Rn} (hZ : Z.Ok) {w : World} {f : Nat} {out : Bool} (h : RnI Z w f out) (at_ : Int) : Calls Tryz.prog 44 #[.pointer (some ⟨Z.rb, 0, none⟩), .int .i64 at_] w fun e w' => Below w.heap.size w w' ∧ ((∃ i : Nat, e = .returned (.int .i64 (i : Int)) ∧ ∃ hi : i < Z.ps.length, ((Z.ps[i] : Nat) : Int) = at_) ∨ (e = .returned (.int .i64 (-1)) ∧ ¬ at_ ∈ Z.ps.map (fun (n : Nat) => (n : Int)))) := by
  have h0 : 0 < Z.ps.length := by have := hZ.len; omega
  obtain ⟨g, hg, hcell⟩ := h.off h0
  have y1 : w.cell? ⟨Z.rb, 1, none⟩ = some (.slice (some ⟨g, 0, none⟩) Z.ps.length Z.oc) := by rw [← hg]; exact h.cm.c 1 _ rfl
  have hmx := hZ.max
  have HC := hide hcell
  clear h hg hcell hZ h0
  go_enter Tryz.func44, Tryz.ntmps44
  go_wp2_with fail
  go_loopw [5] (fun j wr => ∃ n : Nat, j = .int .i64 n ∧ n ≤ Z.ps.length ∧ Hid (Below w.heap.size w wr) ∧ Hid (∀ k (hk : k < n) (hk2 : k < Z.ps.length), ¬ ((Z.ps[k] : Nat) : Int) = at_)) (fun j _ => Z.ps.length - (intOf j).toNat)
  case atStart => exact ⟨0, rfl, Nat.zero_le _, hide (bl_refl w), hide (fun k hk => by omega)⟩
  case round =>
    obtain ⟨n, rfl, hn, HBR, HNO⟩ := hrel
    have z1 := cell_later HBR.out y1
    by_cases hlt : n < Z.ps.length
    · have z2 := cell_later HBR.out (HC.out n hlt)
      have gl : decide ((n : Int) < (Z.ps.length : Int)) = true := decide_eq_true (by omega)
      have gl' : decide (n < Z.ps.length) = true := decide_eq_true hlt
      have i1 : (0 : Int) ≤ (n : Int) := by omega
      have i2 : (n : Int) < (Z.ps.length : Int) := by omega
      have e5 : IntKind.i64.wrap ((n : Int) + 1) = (n : Int) + 1 := wr_n (by omega)
      have hof : Z.of n = ((Z.ps[n] : Nat) : Int) := by unfold Rn.of; rw [List.getD_eq_getElem?_getD, List.getElem?_eq_getElem hlt]; rfl
      rw [hof] at z2
      obtain ⟨u, hu⟩ : ∃ u : Int, ((Z.ps[n] : Nat) : Int) = u := ⟨_, rfl⟩
      rw [hu] at z2
      by_cases he : u = at_
      · have d1 : (u == at_) = true := beq_iff_eq.2 he
        have HE := hide (show ∃ hi : n < Z.ps.length, ((Z.ps[n] : Nat) : Int) = at_ from ⟨hlt, hu.trans he⟩)
        clear he hu hof
        go_wp2
        go_ret
        exact ⟨HBR.out, .inl ⟨n, rfl, HE.out⟩⟩
      · have d1 : (u == at_) = false := beq_eq_false_iff_ne.2 he
        have HNO2 := hide (show ∀ k (hk : k < n + 1) (hk2 : k < Z.ps.length), ¬ ((Z.ps[k] : Nat) : Int) = at_ from fun k hk hk2 => by
          rcases Nat.lt_succ_iff_lt_or_eq.1 hk with h1 | h1
          · exact HNO.out k h1 hk2
          · subst h1; rw [hu]; exact he)
        clear he hu hof
        go_wp2
        refine ⟨?_, by first | (simp [intOf]; done) | (simp [intOf]; omega)⟩
        first
          | exact ⟨n + 1, by go_num, hlt, HBR, HNO2⟩
          | ((repeat apply Exists.intro); exact ⟨⟨n + 1, by go_num, hlt, HBR, HNO2⟩, rfl⟩)
    · obtain rfl : n = Z.ps.length := by omega
      have gl : decide ((Z.ps.length : Int) < (Z.ps.length : Int)) = false := decide_eq_false (by omega)
      have gl' : decide (Z.ps.length < Z.ps.length) = false := decide_eq_false (by omega)
      have HNM := hide (show ¬ at_ ∈ Z.ps.map (fun (n : Nat) => (n : Int)) from fun hm => by
        obtain ⟨a, ha, he⟩ := List.mem_map.1 hm
        obtain ⟨k, hk, rfl⟩ := List.getElem_of_mem ha
        exact HNO.out k hk hk he)
      go_wp2
      go_ret
      exact ⟨HBR.out, .inr ⟨rfl, HNM.out⟩⟩
end Go.Proofs.YtcnliipkfccohaaGreat
end
section
namespace Go.Proofs.YtcnliipkfccohaaGreat
open Go.ChangeShapes Go.WideShapes Go.ChangeAt Go.RowKit
open SetM SpanM
attribute [local go_sem ↓] Go.wp_at_zero Go.wp_at_succ
set_option maxRecDepth 100000
set_option linter.unusedVariables false
attribute [local go_sem] later_cell later_frozen
def zR : Value := .agg #[.int .i64 0, .int .i64 0, .slice none 0 0]
theorem gr_put {w w6 : World} {row : Option Nat} {b : Nat} (hg : w.grownBy w6 row) (hb : w.heap.size ≤ b) (o : Nat) (u : Value) : w.grownBy (w6.setCell ⟨b, o, none⟩ u) row := by
  have h := gr_set w6 b o u
  exact ⟨h.os.trans hg.os, h.tape.trans hg.tape, h.output.trans hg.output, Nat.le_trans hg.size h.size, fun k hk hn => (h.block k (Nat.lt_of_lt_of_le hk hg.size) (fun e => by injection e with e; omega)).trans (hg.block k hk hn)⟩
theorem RnI.put {Z : Rn} {w0 w : World} {f0 f b : Nat} {o0 out : Bool} (h : RnI Z w f out) (h0 : RnI Z w0 f0 o0) (hb : w0.heap.size ≤ b) (o : Nat) (u : Value) : RnI Z (w.setCell ⟨b, o, none⟩ u) f out :=
  ⟨bl_set h.bW (Nat.le_trans h0.bW.size hb) _, h.hrb, h.cm.gr (gr_set w b o u) (fun e => by injection e with e; have := h0.cm.s; omega),
    row_kept h.cs (gr_set w b o u) (fun k hk e => by injection hk with hk; have := (h0.cs.lt k e).2; omega), h.cn,
    row_kept h.os (gr_set w b o u) (fun k hk e => by injection hk with hk; have := (h0.os.lt k e).2; omega), h.on⟩
theorem row_ne_block {w : World} {base size n b : Nat} {e T : TypeId} {v : Value} {xs : List Value} {cs : Array Value} (h : w.ownsRow base e size v n xs) (hb : w.heap[b]? = some (.cells cs T)) (hne : T ≠ e) : v.ownBlock ≠ some b := by
  rcases h.2 with ⟨rfl, _⟩ | ⟨g, cap, cur, rfl, _, hh, _⟩
  · intro h; cases h
  · intro h3
    have h4 : g = b := by injection h3
    subst h4
    rw [hb] at hh
    injection hh with hh
    injection hh with _ hh
    exact hne hh
theorem results_cell2r {fn : Func} {p q : Tmp} {ty : TypeId} (h : fn.results = #[.cell p ty, .tmp q]) (tmps : Array Value) (P : Program) (w : World) :
    (results fn tmps).run P w = ((asAddr (tmps.getD p undef)).run P w).andThen fun a w₁ => ((loadVar ty a).run P w₁).andThen fun v w₂ => .ok (.tuple #[v, tmps.getD q undef]) w₂ := by
  simp only [results, h]
  simp [Sem.run_bind, Result.andThen]
def RaPost (Z : Rn) (i : Nat) (r : Ro) (w : World) (e : Ending) (w' : World) : Prop := w.grownBy w' (some Z.rb) ∧ match r with
  | .found j p f => ∃ v, e = .returned (.tuple #[.agg #[.int .i64 (Z.of i), .int .i64 (Z.of j), v], .bool true]) ∧ RnI Z w' f false ∧ PaAt Z.rb w' v p
  | .fail f => e = .returned (.tuple #[zR, .bool false]) ∧ RnI Z w' f false
  | .dry => e = .returned (.tuple #[zR, .bool false]) ∧ RnI Z w' 0 true
set_option maxHeartbeats 16000000 in
theorem rat_any {Z : Rn} {s : ByteArray} (hT : Z.Tx s) {w : World} {f : Nat} (h : RnI Z w f false) (x : Rt) (hx : RxAt Z.W0 x) (hxo : XOk (gM x) x 0) (i : Nat) (hi : i < Z.ps.length) (hf : f ≤ 20000) (r : Ro) (ho : On (ofG (psS s)) (tkG s (psS s) Z.fold) f [.hold x 0] i (List.replicate (gM x) (-1, -1)) r) :
    Calls Tryz.prog 45 #[.pointer (some ⟨Z.rb, 0, none⟩), x.v, .int .i64 ((i : Nat) : Int)] w (RaPost Z i r w) := by
  obtain ⟨xR, xd, hxr⟩ := rwat_len hx.rows
  obtain ⟨xK, xe, hxk⟩ := ksat_len hx.ks
  have hxv : x.v = .agg #[.int .i64 x.k, .string x.ch, .bool x.nt, .slice xR x.rows.length xd, .int .i64 x.mi, .int .i64 x.ma, .bool x.lz, .slice xK x.kids.length xe] := by unfold Rt.v Rt.cs; rw [hxr, hxk]
  have hxc : x.cs = [.int .i64 x.k, .string x.ch, .bool x.nt, .slice xR x.rows.length xd, .int .i64 x.mi, .int .i64 x.ma, .bool x.lz, .slice xK x.kids.length xe] := by unfold Rt.cs; rw [hxr, hxk]
  obtain ⟨i0, hi0, hz0', hz1, hz2⟩ := info_parts info_sp
  have hlen := hT.ok.len
  have hmx := hT.ok.max
  have hps : Z.ps = psS s := hT.ps
  have HON := hide (fun (W : World) (kv v : Value) => on_spec hT.ok (hT.on ho (by omega)) W kv v)
  have HSP := hide (fun (j : Nat) (p : List (Int × Int)) (f' : Nat) (e : r = .found j p f') => (show j < Z.ps.length from by subst e; rw [hps]; exact (on_span ho (by rw [← hps]; exact hi)).2.1))
  have HXO := hide hxo
  have hgx : gM x ≤ 512 := Nat.le_trans (gM_le x) hxo.pt
  have HGK := hide (fun (W : World) (hb : Below w.heap.size w W) => rgroups_any hx (by have := hxo.pt; omega) W (bl_trans h.bW hb))
  rw [hxv] at HGK
  obtain ⟨gx, hgxe⟩ : ∃ n, gM x = n := ⟨_, rfl⟩
  rw [hgxe] at HGK hgx HON HXO
  obtain ⟨w1, hw1⟩ : ∃ W, ((w.alloc (.cells #[.int .i64 x.k, .string x.ch, .bool x.nt, .slice xR x.rows.length xd, .int .i64 x.mi, .int .i64 x.ma, .bool x.lz, .slice xK x.kids.length xe] 25)).alloc (.cells #[.int .i64 0, .int .i64 0, .slice none 0 0] 36)) = W := ⟨_, rfl⟩
  have HB1 : Hid (Below w.heap.size w w1) := hide (by rw [← hw1]; exact bl_alloc (bl_alloc (bl_refl w) _) _)
  have X1 : Hid (Cm w1 w.heap.size [.int .i64 x.k, .string x.ch, .bool x.nt, .slice xR x.rows.length xd, .int .i64 x.mi, .int .i64 x.ma, .bool x.lz, .slice xK x.kids.length xe]) := hide (by rw [← hw1]; exact (cm_new [.int .i64 x.k, .string x.ch, .bool x.nt, .slice xR x.rows.length xd, .int .i64 x.mi, .int .i64 x.ma, .bool x.lz, .slice xK x.kids.length xe] 25 rfl).bl (bl_alloc (bl_refl _) _))
  have M1 : Hid (Cm w1 (w.heap.size + 1) [.int .i64 0, .int .i64 0, .slice none 0 0]) := hide (by rw [← hw1]; exact cm_new [.int .i64 0, .int .i64 0, .slice none 0 0] 36 (by simp))
  have HM1 : Hid (w1.heap[w.heap.size + 1]? = some (.cells #[.int .i64 0, .int .i64 0, .slice none 0 0] 36)) := hide (by rw [← hw1]; exact heap_new (by simp))
  have HW1 : Hid (w1.heap.size = w.heap.size + 1 + 1) := hide (by rw [← hw1]; simp)
  have HR := hide h
  have HHX := hide hx
  have HXC := hide hxc
  have HF := hide hf
  have HI := hide (show i < Z.ps.length ∧ Z.ps.length ≤ 1000 ∧ i ≤ Z.cs.length from ⟨hi, hmx, by omega⟩)
  have hrb : Z.rb < w.heap.size := h.cm.s
  have HRB := hide hrb
  rw [hxv]
  clear h hx hxo ho hT hxr hxk hxv hxc hi hf hlen hmx hps hgxe hrb
  go_enter Tryz.func45, Tryz.ntmps45
  go_wp2_with fail
  clear hw1
  go_loopw [8, 9] (fun v j wr => ∃ (n : Nat) (A : Option Addr) (c : Nat), v = .slice A n c ∧ j = .int .i64 n ∧ n ≤ gx ∧ Hid (Below w1.heap.size w1 wr) ∧ Hid (wr.ownsRow w1.heap.size 29 2 (.slice A n c) n (flat (List.replicate n (-1, -1))))) (fun _ j _ => gx - (intOf j).toNat)
  case atStart => exact ⟨0, none, 0, rfl, rfl, Nat.zero_le _, hide (bl_refl w1), hide ⟨rfl, .inl ⟨rfl, rfl⟩⟩⟩
  case round =>
    obtain ⟨n, A, c, rfl, rfl, hn, HBR, HVR⟩ := hrel
    have x0 := (X1.out.bl HBR.out).c 0 _ rfl
    have x1 := (X1.out.bl HBR.out).c 1 _ rfl
    have x2 := (X1.out.bl HBR.out).c 2 _ rfl
    have x3 := (X1.out.bl HBR.out).c 3 _ rfl
    have x4 := (X1.out.bl HBR.out).c 4 _ rfl
    have x5 := (X1.out.bl HBR.out).c 5 _ rfl
    have x6 := (X1.out.bl HBR.out).c 6 _ rfl
    have x7 := (X1.out.bl HBR.out).c 7 _ rfl
    go_wp2_with fail
    refine (HGK.out _ (bl_trans HB1.out HBR.out)).mono ?_
    rintro e we ⟨rfl, hbe⟩
    have HBE := hide (bl_trans HBR.out hbe)
    have HVE := hide (own_below HVR.out hbe)
    clear hbe x0 x1 x2 x3 x4 x5 x6 x7 HVR
    by_cases hlt : n < gx
    · have gl : decide ((n : Int) < (gx : Int)) = true := decide_eq_true (by omega)
      have gl' : decide (n < gx) = true := decide_eq_true hlt
      have HBB := hide (bl_alloc (bl_refl we) (.cells #[.int .i64 (-1), .int .i64 (-1)] 29))
      have HOWN := hide (fun (W : World) (hb : Below we.heap.size we W) => own_below HVE.out hb)
      have HSZ := hide (show w1.heap.size ≤ we.heap.size from HBE.out.size)
      have HONE := hide (show ∀ u ∈ ([.int .i64 (-1), .int .i64 (-1)] : List Value), u.oneCell' = true by intro u hu; simp at hu; subst hu; rfl)
      have HLN := hide (show n + 1 ≤ 100000000 by omega)
      have en : IntKind.i64.wrap ((n : Int) + 1) = (n : Int) + 1 := wr_n (by omega)
      go_wp2_with (at_builtin; go_must (refine wpList_src5 _ rfl _ _ 30 rfl (w1.heap.size) 29 i0 (.agg #[.int .i64 0, .int .i64 0]) 2 16 Tryz.underlying30 hi0 hz0' hz1 hz2 rfl (by decide) (.slice A n c) n (flat (List.replicate n (-1, -1))) rfl (HOWN.out _ HBB.out) (some ⟨_, 0, none⟩) 1 1 [.int .i64 (-1), .int .i64 (-1)] rfl (src_block (cs := #[.int .i64 (-1), .int .i64 (-1)]) (heap_new (by simp)) rfl) HONE.out HLN.out (by decide) (Nat.le_trans HSZ.out HBB.out.size) ?_); intro v' w19 hv4 hg4 h5)
      obtain ⟨A', c', rfl⟩ := own_slice hv4
      have HB19 := hide (show Below w1.heap.size w1 w19 from bl_own (bl_trans HBE.out HBB.out) (HOWN.out _ HBB.out) hg4 (Nat.le_refl _))
      have HV19 := hide (show w19.ownsRow w1.heap.size 29 2 (.slice A' (n + 1) c') (n + 1) (flat (List.replicate (n + 1) (-1, -1))) by rw [List.replicate_succ', flat_app]; exact hv4)
      clear hv4 hg4 h5
      go_wp2
      refine ⟨?_, by first | (simp [intOf]; done) | (simp [intOf]; omega)⟩
      first
        | exact ⟨n + 1, A', c', rfl, by go_num, hlt, HB19, HV19⟩
        | ((repeat apply Exists.intro); exact ⟨⟨n + 1, A', c', rfl, by go_num, hlt, HB19, HV19⟩, rfl⟩)
    · obtain rfl : n = gx := by omega
      have gl : decide ((n : Int) < (n : Int)) = false := decide_eq_false (by omega)
      have gl' : decide (n < n) = false := decide_eq_false (by omega)
      have x0 := (X1.out.bl HBE.out).c 0 _ rfl
      have x1 := (X1.out.bl HBE.out).c 1 _ rfl
      have x2 := (X1.out.bl HBE.out).c 2 _ rfl
      have x3 := (X1.out.bl HBE.out).c 3 _ rfl
      have x4 := (X1.out.bl HBE.out).c 4 _ rfl
      have x5 := (X1.out.bl HBE.out).c 5 _ rfl
      have x6 := (X1.out.bl HBE.out).c 6 _ rfl
      have x7 := (X1.out.bl HBE.out).c 7 _ rfl
      have HBN := hide (bl_alloc HBE.out (.cells #[.int .i64 0, .int .i64 x.k, .string x.ch, .bool x.nt, .slice xR x.rows.length xd, .int .i64 x.mi, .int .i64 x.ma, .bool x.lz, .slice xK x.kids.length xe, .int .i64 0, .int .i64 0, .int .i64 0, .pointer none] 132))
      have HCALL := hide (show Calls Tryz.prog 78 #[.pointer (some ⟨Z.rb, 0, none⟩), .pointer (some ⟨we.heap.size, 0, none⟩), .int .i64 ((i : Nat) : Int), .slice A n c] (we.alloc (.cells #[.int .i64 0, .int .i64 x.k, .string x.ch, .bool x.nt, .slice xR x.rows.length xd, .int .i64 x.mi, .int .i64 x.ma, .bool x.lz, .slice xK x.kids.length xe, .int .i64 0, .int .i64 0, .int .i64 0, .pointer none] 132)) (NrPost Z r (we.alloc (.cells #[.int .i64 0, .int .i64 x.k, .string x.ch, .bool x.nt, .slice xR x.rows.length xd, .int .i64 x.mi, .int .i64 x.ma, .bool x.lz, .slice xK x.kids.length xe, .int .i64 0, .int .i64 0, .int .i64 0, .pointer none] 132))) from
        HON.out _ _ _ (HR.out.bl (bl_trans HB1.out HBN.out)) (.hold we.heap.size x 0 [] (.pointer none) 0 0 (by have := HRB.out; have := HB1.out.size; have := HBE.out.size; omega) HHX.out (by rw [HXC.out]; exact cells_new we [.int .i64 0, .int .i64 x.k, .string x.ch, .bool x.nt, .slice xR x.rows.length xd, .int .i64 x.mi, .int .i64 x.ma, .bool x.lz, .slice xK x.kids.length xe, .int .i64 0, .int .i64 0, .int .i64 0, .pointer none] _) .nil)
          ⟨by rw [List.length_replicate]; exact own_base (own_below HVE.out (bl_alloc (bl_refl we) _)) (Nat.zero_le _), fun e => by have := (HVE.out.lt _ e).1; have := HRB.out; have := HB1.out.size; omega⟩ HI.out.2.2 (by rw [List.length_replicate]; exact hgx) (fun t ht => by
            rw [List.length_replicate]
            rcases List.mem_cons.1 ht with rfl | ht
            · exact HXO.out
            · cases ht) HF.out)
      clear hlt hn HVE
      go_wp2_with fail
      refine HCALL.out.mono ?_
      rintro e w6 ⟨hg6, hp6⟩
      have M6 := hide ((M1.out.bl HBN.out).gr hg6 (fun e => by injection e with e; have := HRB.out; omega))
      have HH6 := hide (show w6.heap[w.heap.size + 1]? = some (.cells #[.int .i64 0, .int .i64 0, .slice none 0 0] 36) from by
        have h1 : (we.alloc (.cells #[.int .i64 0, .int .i64 x.k, .string x.ch, .bool x.nt, .slice xR x.rows.length xd, .int .i64 x.mi, .int .i64 x.ma, .bool x.lz, .slice xK x.kids.length xe, .int .i64 0, .int .i64 0, .int .i64 0, .pointer none] 132)).heap[w.heap.size + 1]? = some (.cells #[.int .i64 0, .int .i64 0, .slice none 0 0] 36) := (HBN.out.block _ (by rw [HW1.out]; omega)).trans HM1.out
        exact (hg6.block _ (by have h2 := HBN.out.size; rw [HW1.out] at h2; omega) (fun e => by injection e with e; have := HRB.out; omega)).trans h1)
      have HG6 := hide (gr_trans (gr_bl (bl_trans HB1.out HBN.out) _) hg6)
      have m0 := M6.out.c 0 _ rfl
      have m1 := M6.out.c 1 _ rfl
      have m2 := M6.out.c 2 _ rfl
      have mf := M6.out.f
      have ms := M6.out.s
      clear hg6 x0 x1 x2 x3 x4 x5 x6 x7
      cases r with
      | fail f' =>
        obtain ⟨rfl, hR6⟩ := hp6
        have HFIN := hide (show RaPost Z i (.fail f') w (.returned (.tuple #[zR, .bool false])) (((w6.setCell ⟨w.heap.size + 1, 0, none⟩ (.int .i64 0)).setCell ⟨w.heap.size + 1, 1, none⟩ (.int .i64 0)).setCell ⟨w.heap.size + 1, 2, none⟩ (.slice none 0 0)) from ⟨gr_put (gr_put (gr_put HG6.out (Nat.le_succ _) _ _) (Nat.le_succ _) _ _) (Nat.le_succ _) _ _, rfl, ((hR6.put HR.out (Nat.le_succ _) _ _).put HR.out (Nat.le_succ _) _ _).put HR.out (Nat.le_succ _) _ _⟩)
        clear hR6
        go_wp2
        refine bodyPost_ret (v := .tuple #[.agg #[.int .i64 0, .int .i64 0, .slice none 0 0], .bool false]) ?_ rfl HFIN.out
        rw [results_cell2r rfl]
        go_simp
      | dry =>
        obtain ⟨rfl, hR6⟩ := hp6
        have HFIN := hide (show RaPost Z i .dry w (.returned (.tuple #[zR, .bool false])) (((w6.setCell ⟨w.heap.size + 1, 0, none⟩ (.int .i64 0)).setCell ⟨w.heap.size + 1, 1, none⟩ (.int .i64 0)).setCell ⟨w.heap.size + 1, 2, none⟩ (.slice none 0 0)) from ⟨gr_put (gr_put (gr_put HG6.out (Nat.le_succ _) _ _) (Nat.le_succ _) _ _) (Nat.le_succ _) _ _, rfl, ((hR6.put HR.out (Nat.le_succ _) _ _).put HR.out (Nat.le_succ _) _ _).put HR.out (Nat.le_succ _) _ _⟩)
        clear hR6
        go_wp2
        refine bodyPost_ret (v := .tuple #[.agg #[.int .i64 0, .int .i64 0, .slice none 0 0], .bool false]) ?_ rfl HFIN.out
        rw [results_cell2r rfl]
        go_simp
      | found j p' f' =>
        obtain ⟨v6, rfl, hR6, hP6⟩ := hp6
        obtain ⟨A6, c6, rfl⟩ := own_slice hP6.1
        have hj := HSP.out j p' f' rfl
        obtain ⟨og, hog, hoc⟩ := hR6.off (by omega)
        have y1 : w6.cell? ⟨Z.rb, 1, none⟩ = some (.slice (some ⟨og, 0, none⟩) Z.ps.length Z.oc) := by rw [← hog]; exact hR6.cm.c 1 _ rfl
        have o1 := hoc i HI.out.1
        have o2 := hoc j hj
        have i1 : (0 : Int) ≤ (i : Int) := by omega
        have i2 : (i : Int) < (Z.ps.length : Int) := by have := HI.out.1; omega
        have i3 : (0 : Int) ≤ (j : Int) := by omega
        have i4 : (j : Int) < (Z.ps.length : Int) := by omega
        have nr : w.heap.size + 1 ≠ Z.rb := by have := HRB.out; omega
        have no : w.heap.size + 1 ≠ og := by
          have h3 := (HR.out.os.lt og (by rw [hog]; rfl)).2
          omega
        have ltr : Z.rb < w6.heap.size := hR6.cm.s
        have lto : og < w6.heap.size := World.block_lt_of_cell? _ _ o1
        have hnb := row_ne_block hP6.1 HH6.out (by decide)
        have HFIN := hide (show ∀ W, (((w6.setCell ⟨w.heap.size + 1, 0, none⟩ (.int .i64 (Z.of i))).setCell ⟨w.heap.size + 1, 1, none⟩ (.int .i64 (Z.of j))).setCell ⟨w.heap.size + 1, 2, none⟩ (.slice A6 p'.length c6)) = W → RaPost Z i (.found j p' f') w (.returned (.tuple #[.agg #[.int .i64 (Z.of i), .int .i64 (Z.of j), .slice A6 p'.length c6], .bool true])) W.drew from fun W hW => by
          subst hW
          refine ⟨gr_trans (gr_put (gr_put (gr_put HG6.out (Nat.le_succ _) _ _) (Nat.le_succ _) _ _) (Nat.le_succ _) _ _) (gr_bl (bl_drew (bl_refl _)) _), _, rfl, (((hR6.put HR.out (Nat.le_succ _) _ _).put HR.out (Nat.le_succ _) _ _).put HR.out (Nat.le_succ _) _ _).bl (bl_drew (bl_refl _)), ?_⟩
          refine PaAt.bl ⟨?_, hP6.2⟩ (bl_drew (bl_refl _))
          have k1 := row_kept hP6.1 (gr_set w6 (w.heap.size + 1) 0 (.int .i64 (Z.of i))) (fun k hk e => hnb (by rw [e, ← hk]))
          have k2 := row_kept k1 (gr_set _ (w.heap.size + 1) 1 (.int .i64 (Z.of j))) (fun k hk e => hnb (by rw [e, ← hk]))
          exact row_kept k2 (gr_set _ (w.heap.size + 1) 2 (.slice A6 p'.length c6)) (fun k hk e => hnb (by rw [e, ← hk])))
        clear hR6 hP6 hog hoc hj hnb
        go_wp2_with fail
        go_region
        go_wp2_with fail
        refine bodyPost_ret (v := .tuple #[.agg #[.int .i64 (Z.of i), .int .i64 (Z.of j), .slice A6 p'.length c6], .bool true]) ?_ rfl (HFIN.out _ rfl)
        rw [results_cell2r rfl]
        go_simp
end Go.Proofs.YtcnliipkfccohaaGreat
end
section
namespace Go.Proofs.YtcnliipkfccohaaGreat
open Go.ChangeShapes Go.WideShapes Go.ChangeAt Go.RowKit
open SetM SpanM
attribute [local go_sem ↓] Go.wp_at_zero Go.wp_at_succ
set_option maxRecDepth 100000
set_option linter.unusedVariables false
attribute [local go_sem] later_cell later_frozen
def TdPost (out : Bool) (f : Nat) (m : Value) (ok : Bool) (w : World) (e : Ending) (w' : World) : Prop := e = .returned (if out = true then .tuple #[zR, .int .i64 0, .bool false, .int .i64 9] else .tuple #[m, .int .i64 ((f : Nat) : Int), .bool ok, .int .i64 0]) ∧ Below w.heap.size w w'
set_option maxHeartbeats 4000000 in
theorem told_any {Z : Rn} {w : World} {f : Nat} {out : Bool} (h : RnI Z w f out) (a b : Int) (A : Option Addr) (n c : Nat) (ok : Bool) : Calls Tryz.prog 46 #[.pointer (some ⟨Z.rb, 0, none⟩), .agg #[.int .i64 a, .int .i64 b, .slice A n c], .bool ok] w (TdPost out f (.agg #[.int .i64 a, .int .i64 b, .slice A n c]) ok w) := by
  have y3 : w.cell? ⟨Z.rb, 3, none⟩ = some (.int .i64 ((f : Nat) : Int)) := h.cm.c 3 _ rfl
  have y4 : w.cell? ⟨Z.rb, 4, none⟩ = some (.bool out) := h.cm.c 4 _ rfl
  have lt1 := h.cm.s
  have n1 : w.heap.size ≠ Z.rb := by omega
  have n2 : w.heap.size + 1 ≠ Z.rb := by omega
  obtain ⟨w1, hw1⟩ : ∃ W, ((w.alloc (.cells #[.int .i64 a, .int .i64 b, .slice A n c] 36)).alloc (.cells #[.int .i64 0, .int .i64 0, .slice none 0 0] 36)) = W := ⟨_, rfl⟩
  have HB1 : Hid (Below w.heap.size w w1) := hide (by rw [← hw1]; exact bl_alloc (bl_alloc (bl_refl w) _) _)
  have X1 : Hid (Cm w1 w.heap.size [.int .i64 a, .int .i64 b, .slice A n c]) := hide (by rw [← hw1]; exact (cm_new [.int .i64 a, .int .i64 b, .slice A n c] 36 rfl).bl (bl_alloc (bl_refl _) _))
  have M1 : Hid (Cm w1 (w.heap.size + 1) [.int .i64 0, .int .i64 0, .slice none 0 0]) := hide (by rw [← hw1]; exact cm_new [.int .i64 0, .int .i64 0, .slice none 0 0] 36 (by simp))
  have x0 := X1.out.c 0 _ rfl
  have x1 := X1.out.c 1 _ rfl
  have x2 := X1.out.c 2 _ rfl
  have xs := X1.out.s
  have m0 := M1.out.c 0 _ rfl
  have m1 := M1.out.c 1 _ rfl
  have m2 := M1.out.c 2 _ rfl
  have mf := M1.out.f
  have ms := M1.out.s
  have z3 := cell_later HB1.out y3
  have z4 := cell_later HB1.out y4
  have lt2 : Z.rb < w1.heap.size := Nat.lt_of_lt_of_le lt1 HB1.out.size
  clear h y3 y4
  cases out with
  | true =>
    have HFIN := hide (show TdPost true f (.agg #[.int .i64 a, .int .i64 b, .slice A n c]) ok w (.returned (.tuple #[zR, .int .i64 0, .bool false, .int .i64 9])) (((w1.setCell ⟨w.heap.size + 1, 0, none⟩ (.int .i64 0)).setCell ⟨w.heap.size + 1, 1, none⟩ (.int .i64 0)).setCell ⟨w.heap.size + 1, 2, none⟩ (.slice none 0 0)) from ⟨rfl, bl_set (bl_set (bl_set HB1.out (Nat.le_succ _) _) (Nat.le_succ _) _) (Nat.le_succ _) _⟩)
    go_enter Tryz.func46, Tryz.ntmps46
    go_wp2
    refine bodyPost_ret (v := .tuple #[.agg #[.int .i64 0, .int .i64 0, .slice none 0 0], .int .i64 0, .bool false, .int .i64 9]) ?_ rfl HFIN.out
    rw [results_cell4 rfl]
    go_simp
  | false =>
    have HFIN := hide (show ∀ W, (((w1.setCell ⟨w.heap.size + 1, 0, none⟩ (.int .i64 a)).setCell ⟨w.heap.size + 1, 1, none⟩ (.int .i64 b)).setCell ⟨w.heap.size + 1, 2, none⟩ (.slice A n c)) = W → TdPost false f (.agg #[.int .i64 a, .int .i64 b, .slice A n c]) ok w (.returned (.tuple #[.agg #[.int .i64 a, .int .i64 b, .slice A n c], .int .i64 ((f : Nat) : Int), .bool ok, .int .i64 0])) W.drew from fun W hW => by
      subst hW
      exact ⟨rfl, bl_drew (bl_set (bl_set (bl_set HB1.out (Nat.le_succ _) _) (Nat.le_succ _) _) (Nat.le_succ _) _)⟩)
    go_enter Tryz.func46, Tryz.ntmps46
    go_wp2_with fail
    go_region
    go_wp2_with fail
    refine bodyPost_ret (v := .tuple #[.agg #[.int .i64 a, .int .i64 b, .slice A n c], .int .i64 ((f : Nat) : Int), .bool ok, .int .i64 0]) ?_ rfl (HFIN.out _ rfl)
    rw [results_cell4 rfl]
    go_simp
set_option maxHeartbeats 16000000 in
theorem rfind_any {Z : Rn} {s : ByteArray} (hT : Z.Tx s) {w : World} {f : Nat} (h : RnI Z w f false) (x : Rt) (hx : RxAt Z.W0 x) (hxo : XOk (gM x) x 0) (i : Nat) (hi : i ≤ Z.ps.length) (hf : f ≤ 20000) (st : Nat) (r : Ro) (ho : Fd (QG (ofG (psS s)) (tkG s (psS s) Z.fold) x (gM x)) Z.ps.length f i st r) :
    Calls Tryz.prog 48 #[.pointer (some ⟨Z.rb, 0, none⟩), x.v, .int .i64 ((i : Nat) : Int)] w (RaPost Z st r w) := by
  obtain ⟨xR, xd, hxr⟩ := rwat_len hx.rows
  obtain ⟨xK, xe, hxk⟩ := ksat_len hx.ks
  have hxv : x.v = .agg #[.int .i64 x.k, .string x.ch, .bool x.nt, .slice xR x.rows.length xd, .int .i64 x.mi, .int .i64 x.ma, .bool x.lz, .slice xK x.kids.length xe] := by unfold Rt.v Rt.cs; rw [hxr, hxk]
  have hmx := hT.ok.max
  have HAT := hide (fun (W : World) (f2 n : Nat) (r2 : Ro) (hR2 : RnI Z W f2 false) (hn : n < Z.ps.length) (hf2 : f2 ≤ 20000) ho2 => rat_any hT hR2 x hx hxo n hn hf2 r2 ho2)
  rw [hxv] at HAT
  obtain ⟨w1, hw1⟩ : ∃ W, ((w.alloc (.cells #[.int .i64 x.k, .string x.ch, .bool x.nt, .slice xR x.rows.length xd, .int .i64 x.mi, .int .i64 x.ma, .bool x.lz, .slice xK x.kids.length xe] 25)).alloc (.cells #[.int .i64 0, .int .i64 0, .slice none 0 0] 36)) = W := ⟨_, rfl⟩
  have HB1 : Hid (Below w.heap.size w w1) := hide (by rw [← hw1]; exact bl_alloc (bl_alloc (bl_refl w) _) _)
  have X1 : Hid (Cm w1 w.heap.size [.int .i64 x.k, .string x.ch, .bool x.nt, .slice xR x.rows.length xd, .int .i64 x.mi, .int .i64 x.ma, .bool x.lz, .slice xK x.kids.length xe]) := hide (by rw [← hw1]; exact (cm_new [.int .i64 x.k, .string x.ch, .bool x.nt, .slice xR x.rows.length xd, .int .i64 x.mi, .int .i64 x.ma, .bool x.lz, .slice xK x.kids.length xe] 25 rfl).bl (bl_alloc (bl_refl _) _))
  have M1 : Hid (Cm w1 (w.heap.size + 1) [.int .i64 0, .int .i64 0, .slice none 0 0]) := hide (by rw [← hw1]; exact cm_new [.int .i64 0, .int .i64 0, .slice none 0 0] 36 (by simp))
  have HM1 : Hid (w1.heap[w.heap.size + 1]? = some (.cells #[.int .i64 0, .int .i64 0, .slice none 0 0] 36)) := hide (by rw [← hw1]; exact heap_new (by simp))
  have HW1 : Hid (w1.heap.size = w.heap.size + 1 + 1) := hide (by rw [← hw1]; simp)
  have HR := hide h
  have HR1 := hide (h.bl HB1.out)
  have hrb : Z.rb < w.heap.size := h.cm.s
  have HRB := hide hrb
  have HFD := hide ho
  have HF := hide hf
  rw [hxv]
  clear h hx hxo ho hT hxr hxk hxv hf hrb
  go_enter Tryz.func48, Tryz.ntmps48
  go_wp2_with fail
  clear hw1
  go_loopw [2] (fun j wr => ∃ n f' : Nat, j = .int .i64 n ∧ n ≤ Z.ps.length ∧ Hid (Fd (QG (ofG (psS s)) (tkG s (psS s) Z.fold) x (gM x)) Z.ps.length f' n st r) ∧ Hid (w1.grownBy wr (some Z.rb)) ∧ Hid (RnI Z wr f' false) ∧ Hid (f' ≤ 20000)) (fun j _ => Z.ps.length - (intOf j).toNat)
  case atStart => exact ⟨i, f, rfl, hi, HFD, hide (gr_bl (bl_refl _) _), HR1, HF⟩
  case round =>
    obtain ⟨n, f', rfl, hn, HFN, HGR, HRR, HFF⟩ := hrel
    have y1 : wr.cell? ⟨Z.rb, 1, none⟩ = some (.slice Z.oA Z.ps.length Z.oc) := HRR.out.cm.c 1 _ rfl
    have lrb : Z.rb < wr.heap.size := HRR.out.cm.s
    have x0 := (X1.out.gr HGR.out (fun e => by injection e with e; have := HRB.out; omega)).c 0 _ rfl
    have x1 := (X1.out.gr HGR.out (fun e => by injection e with e; have := HRB.out; omega)).c 1 _ rfl
    have x2 := (X1.out.gr HGR.out (fun e => by injection e with e; have := HRB.out; omega)).c 2 _ rfl
    have x3 := (X1.out.gr HGR.out (fun e => by injection e with e; have := HRB.out; omega)).c 3 _ rfl
    have x4 := (X1.out.gr HGR.out (fun e => by injection e with e; have := HRB.out; omega)).c 4 _ rfl
    have x5 := (X1.out.gr HGR.out (fun e => by injection e with e; have := HRB.out; omega)).c 5 _ rfl
    have x6 := (X1.out.gr HGR.out (fun e => by injection e with e; have := HRB.out; omega)).c 6 _ rfl
    have x7 := (X1.out.gr HGR.out (fun e => by injection e with e; have := HRB.out; omega)).c 7 _ rfl
    by_cases hlt : n < Z.ps.length
    · have gl : decide ((n : Int) < (Z.ps.length : Int)) = true := decide_eq_true (by omega)
      have gl' : decide (n < Z.ps.length) = true := decide_eq_true hlt
      have en : IntKind.i64.wrap ((n : Int) + 1) = (n : Int) + 1 := wr_n (by omega)
      have HLT := hide hlt
      rcases fd_step HFN.out hlt with ⟨hst, hq, hrf⟩ | ⟨f'', hq, hfd⟩
      · subst hst
        have HCL := hide (HAT.out wr f' st r HRR.out hlt HFF.out hq)
        go_wp2_with fail
        refine HCL.out.mono ?_
        clear x0 x1 x2 x3 x4 x5 x6 x7 hq y1
        rintro e w6 ⟨hg6, hp6⟩
        cases r with
        | fail f3 => exact absurd rfl (hrf f3)
        | dry =>
          obtain ⟨rfl, hR6⟩ := hp6
          rw [show zR = .agg #[.int .i64 0, .int .i64 0, .slice none 0 0] from rfl]
          have HG6 := hide (gr_trans HGR.out hg6)
          have HB7 := hide (show Below w6.heap.size w6 (w6.alloc (.cells #[.int .i64 0, .int .i64 0, .slice none 0 0] 36)) from bl_alloc (bl_refl _) _)
          have HG7 := hide (gr_trans HG6.out (gr_bl HB7.out _))
          have M6 := hide (M1.out.gr HG6.out (fun e => by injection e with e; have := HRB.out; omega))
          have m0 := M6.out.c 0 _ rfl
          have m1 := M6.out.c 1 _ rfl
          have m2 := M6.out.c 2 _ rfl
          have mf := M6.out.f
          have ms := M6.out.s
          have nm : w6.heap.size ≠ w.heap.size + 1 := by have h1 := HG6.out.size; have h2 := HW1.out; omega
          have lt7 : Z.rb < w6.heap.size := hR6.cm.s
          have y4 : w6.cell? ⟨Z.rb, 4, none⟩ = some (.bool true) := hR6.cm.c 4 _ rfl
          have HFIN := hide (show RaPost Z st .dry w (.returned (.tuple #[zR, .bool false])) ((((w6.setCell ⟨w.heap.size + 1, 0, none⟩ (.int .i64 0)).setCell ⟨w.heap.size + 1, 1, none⟩ (.int .i64 0)).setCell ⟨w.heap.size + 1, 2, none⟩ (.slice none 0 0)).alloc (.cells #[.int .i64 0, .int .i64 0, .slice none 0 0] 36)) from ⟨gr_trans (gr_put (gr_put (gr_put (gr_trans (gr_bl HB1.out _) HG6.out) (Nat.le_succ _) _ _) (Nat.le_succ _) _ _) (Nat.le_succ _) _ _) (gr_bl (bl_alloc (bl_refl _) _) _), rfl, ((((hR6).put HR.out (Nat.le_succ _) _ _).put HR.out (Nat.le_succ _) _ _).put HR.out (Nat.le_succ _) _ _).bl (bl_alloc (bl_refl _) _)⟩)
          clear hR6 hg6 hrf hlt
          go_wp2
          refine bodyPost_ret (v := .tuple #[.agg #[.int .i64 0, .int .i64 0, .slice none 0 0], .bool false]) ?_ rfl HFIN.out
          rw [results_cell2r rfl]
          go_simp
        | found j p' f3 =>
          obtain ⟨v6, rfl, hR6, hP6⟩ := hp6
          obtain ⟨A6, c6, rfl⟩ := own_slice hP6.1
          have HG6 := hide (gr_trans HGR.out hg6)
          obtain ⟨w7, hw7⟩ : ∃ W, (w6.alloc (.cells #[.int .i64 (Z.of st), .int .i64 (Z.of j), .slice A6 p'.length c6] 36)) = W := ⟨_, rfl⟩
          have HB7 : Hid (Below w6.heap.size w6 w7) := hide (by rw [← hw7]; exact bl_alloc (bl_refl _) _)
          have N7 : Hid (Cm w7 w6.heap.size [.int .i64 (Z.of st), .int .i64 (Z.of j), .slice A6 p'.length c6]) := hide (by rw [← hw7]; exact cm_new [.int .i64 (Z.of st), .int .i64 (Z.of j), .slice A6 p'.length c6] 36 rfl)
          have HG7 := hide (gr_trans HG6.out (gr_bl HB7.out _))
          have M7 := hide (M1.out.gr HG7.out (fun e => by injection e with e; have := HRB.out; omega))
          have n0 := N7.out.c 0 _ rfl
          have n1 := N7.out.c 1 _ rfl
          have n2 := N7.out.c 2 _ rfl
          have ns := N7.out.s
          have m0 := M7.out.c 0 _ rfl
          have m1 := M7.out.c 1 _ rfl
          have m2 := M7.out.c 2 _ rfl
          have mf := M7.out.f
          have ms := M7.out.s
          have nm : w6.heap.size ≠ w.heap.size + 1 := by have h1 := HG6.out.size; have h2 := HW1.out; omega
          have HH6 := hide (show w6.heap[w.heap.size + 1]? = some (.cells #[.int .i64 0, .int .i64 0, .slice none 0 0] 36) from (HG6.out.block _ (by rw [HW1.out]; omega) (fun e => by injection e with e; have := HRB.out; omega)).trans HM1.out)
          have hnb := row_ne_block hP6.1 HH6.out (by decide)
          have HFIN := hide (show RaPost Z st (.found j p' f3) w (.returned (.tuple #[.agg #[.int .i64 (Z.of st), .int .i64 (Z.of j), .slice A6 p'.length c6], .bool true])) (((w7.setCell ⟨w.heap.size + 1, 0, none⟩ (.int .i64 (Z.of st))).setCell ⟨w.heap.size + 1, 1, none⟩ (.int .i64 (Z.of j))).setCell ⟨w.heap.size + 1, 2, none⟩ (.slice A6 p'.length c6)) from ⟨gr_put (gr_put (gr_put (gr_trans (gr_bl HB1.out _) HG7.out) (Nat.le_succ _) _ _) (Nat.le_succ _) _ _) (Nat.le_succ _) _ _, _, rfl, (((hR6.bl HB7.out).put HR.out (Nat.le_succ _) _ _).put HR.out (Nat.le_succ _) _ _).put HR.out (Nat.le_succ _) _ _, (by
            have k0 := (hP6.bl HB7.out)
            have k1 := row_kept k0.1 (gr_set w7 (w.heap.size + 1) 0 (.int .i64 (Z.of st))) (fun k hk e => hnb (by rw [e, ← hk]))
            have k2 := row_kept k1 (gr_set _ (w.heap.size + 1) 1 (.int .i64 (Z.of j))) (fun k hk e => hnb (by rw [e, ← hk]))
            exact ⟨row_kept k2 (gr_set _ (w.heap.size + 1) 2 (.slice A6 p'.length c6)) (fun k hk e => hnb (by rw [e, ← hk])), k0.2⟩)⟩)
          clear hR6 hP6 hg6 hrf hlt hnb
          go_wp2
          refine bodyPost_ret (v := .tuple #[.agg #[.int .i64 (Z.of st), .int .i64 (Z.of j), .slice A6 p'.length c6], .bool true]) ?_ rfl HFIN.out
          rw [results_cell2r rfl]
          go_simp
      · have HCL := hide (HAT.out wr f' n (.fail f'') HRR.out hlt HFF.out hq)
        have HLE := hide (Nat.le_trans (show f'' ≤ f' from on_left _ _ hq) HFF.out)
        have HFD2 := hide hfd
        go_wp2_with fail
        refine HCL.out.mono ?_
        clear x0 x1 x2 x3 x4 x5 x6 x7 hq y1 hfd
        rintro e w6 ⟨hg6, rfl, hR6⟩
        rw [show zR = .agg #[.int .i64 0, .int .i64 0, .slice none 0 0] from rfl]
        have HG6 := hide (gr_trans HGR.out hg6)
        have HB7 := hide (show Below w6.heap.size w6 (w6.alloc (.cells #[.int .i64 0, .int .i64 0, .slice none 0 0] 36)) from bl_alloc (bl_refl _) _)
        have HG7 := hide (gr_trans HG6.out (gr_bl HB7.out _))
        have M6 := hide (M1.out.gr HG6.out (fun e => by injection e with e; have := HRB.out; omega))
        have m0 := M6.out.c 0 _ rfl
        have m1 := M6.out.c 1 _ rfl
        have m2 := M6.out.c 2 _ rfl
        have mf := M6.out.f
        have ms := M6.out.s
        have nm : w6.heap.size ≠ w.heap.size + 1 := by have h1 := HG6.out.size; have h2 := HW1.out; omega
        have lt7 : Z.rb < w6.heap.size := hR6.cm.s
        have y4 : w6.cell? ⟨Z.rb, 4, none⟩ = some (.bool false) := hR6.cm.c 4 _ rfl
        have HR7 := hide (hR6.bl HB7.out)
        clear hR6 hg6
        go_wp2
        refine ⟨?_, by first | (simp [intOf]; done) | (simp [intOf]; omega)⟩
        first
          | exact ⟨n + 1, f'', by go_num, HLT.out, HFD2, HG7, HR7, HLE⟩
          | ((repeat apply Exists.intro); exact ⟨⟨n + 1, f'', by go_num, HLT.out, HFD2, HG7, HR7, HLE⟩, rfl⟩)
    · obtain rfl : n = Z.ps.length := by omega
      have gl : decide ((Z.ps.length : Int) < (Z.ps.length : Int)) = false := decide_eq_false (by omega)
      have gl' : decide (Z.ps.length < Z.ps.length) = false := decide_eq_false (by omega)
      obtain ⟨hst, hre⟩ := fd_end HFN.out (Nat.le_refl _)
      subst hst hre
      have M7 := hide (M1.out.gr HGR.out (fun e => by injection e with e; have := HRB.out; omega))
      have m0 := M7.out.c 0 _ rfl
      have m1 := M7.out.c 1 _ rfl
      have m2 := M7.out.c 2 _ rfl
      have mf := M7.out.f
      have ms := M7.out.s
      have HFIN := hide (show RaPost Z 0 (.fail f') w (.returned (.tuple #[zR, .bool false])) (((wr.setCell ⟨w.heap.size + 1, 0, none⟩ (.int .i64 0)).setCell ⟨w.heap.size + 1, 1, none⟩ (.int .i64 0)).setCell ⟨w.heap.size + 1, 2, none⟩ (.slice none 0 0)) from ⟨gr_put (gr_put (gr_put (gr_trans (gr_bl HB1.out _) HGR.out) (Nat.le_succ _) _ _) (Nat.le_succ _) _ _) (Nat.le_succ _) _ _, rfl, (((HRR.out).put HR.out (Nat.le_succ _) _ _).put HR.out (Nat.le_succ _) _ _).put HR.out (Nat.le_succ _) _ _⟩)
      go_wp2
      refine bodyPost_ret (v := .tuple #[.agg #[.int .i64 0, .int .i64 0, .slice none 0 0], .bool false]) ?_ rfl HFIN.out
      rw [results_cell2r rfl]
      go_simp
end Go.Proofs.YtcnliipkfccohaaGreat
end
section
namespace Go.Proofs.YtcnliipkfccohaaGreat
open Go.ChangeShapes Go.WideShapes Go.ChangeAt Go.RowKit
open SetM SpanM
attribute [local go_sem ↓] Go.wp_at_zero Go.wp_at_succ
set_option maxRecDepth 100000
set_option linter.unusedVariables false
attribute [local go_sem] later_cell later_frozen
set_option maxHeartbeats 16000000 in
theorem rAt_q {w : World} {x : Rt} (hx : RxAt w x) (hsz : sM x ≤ 1000) (fold : Bool) (s : ByteArray) (hs : s.size ≤ 999) (at_ fuel : Int) :
    Calls Tryz.prog 17 #[x.v, .bool fold, .string s, .int .i64 at_, .int .i64 fuel] w fun e w' => ∃ q, AtQ x fold s at_ (fuC fuel) q ∧ AnF q w e w' := by
  obtain ⟨xR, xd, hxr⟩ := rwat_len hx.rows
  obtain ⟨xK, xe, hxk⟩ := ksat_len hx.ks
  have hxv : x.v = .agg #[.int .i64 x.k, .string x.ch, .bool x.nt, .slice xR x.rows.length xd, .int .i64 x.mi, .int .i64 x.ma, .bool x.lz, .slice xK x.kids.length xe] := by unfold Rt.v Rt.cs; rw [hxr, hxk]
  have HMY := hide (fun (W : World) (hb : Below w.heap.size w W) => rxrmay_any hx (by omega) W hb)
  unfold SmPost at HMY
  rw [hxv] at HMY
  have HST := hide (fun W => start_any fold s fuel hs W)
  obtain ⟨w1, hw1⟩ : ∃ W, ((w.alloc (.cells #[.int .i64 x.k, .string x.ch, .bool x.nt, .slice xR x.rows.length xd, .int .i64 x.mi, .int .i64 x.ma, .bool x.lz, .slice xK x.kids.length xe] 25)).alloc (.cells #[.int .i64 0, .int .i64 0, .slice none 0 0] 36)) = W := ⟨_, rfl⟩
  have HB1 : Hid (Below w.heap.size w w1) := hide (by rw [← hw1]; exact bl_alloc (bl_alloc (bl_refl w) _) _)
  have X1 : Hid (Cm w1 w.heap.size [.int .i64 x.k, .string x.ch, .bool x.nt, .slice xR x.rows.length xd, .int .i64 x.mi, .int .i64 x.ma, .bool x.lz, .slice xK x.kids.length xe]) := hide (by rw [← hw1]; exact (cm_new [.int .i64 x.k, .string x.ch, .bool x.nt, .slice xR x.rows.length xd, .int .i64 x.mi, .int .i64 x.ma, .bool x.lz, .slice xK x.kids.length xe] 25 rfl).bl (bl_alloc (bl_refl _) _))
  have M1 : Hid (Cm w1 (w.heap.size + 1) [.int .i64 0, .int .i64 0, .slice none 0 0]) := hide (by rw [← hw1]; exact cm_new [.int .i64 0, .int .i64 0, .slice none 0 0] 36 (by simp))
  have HM1 : Hid (w1.heap[w.heap.size + 1]? = some (.cells #[.int .i64 0, .int .i64 0, .slice none 0 0] 36)) := hide (by rw [← hw1]; exact heap_new (by simp))
  have HHX := hide hx
  have HXV := hide hxv
  have HSZ := hide hsz
  obtain ⟨z, hz⟩ : ∃ z, cnB x 16 512 = z := ⟨_, rfl⟩
  rw [hz] at HMY
  have HC := hide hz
  rw [hxv]
  clear hx hsz hxr hxk hxv hs hz
  have x0 := X1.out.c 0 _ rfl
  have x1 := X1.out.c 1 _ rfl
  have x2 := X1.out.c 2 _ rfl
  have x3 := X1.out.c 3 _ rfl
  have x4 := X1.out.c 4 _ rfl
  have x5 := X1.out.c 5 _ rfl
  have x6 := X1.out.c 6 _ rfl
  have x7 := X1.out.c 7 _ rfl
  go_enter Tryz.func17, Tryz.ntmps17
  go_wp2_with fail
  refine (HMY.out _ HB1.out).mono ?_
  rintro e w2 ⟨rfl, hb2⟩
  have HB2 := hide (bl_trans HB1.out hb2)
  have X2 := hide (X1.out.bl hb2)
  have M2 := hide (M1.out.bl hb2)
  have HH2 := hide ((hb2.block (w.heap.size + 1) (World.block_lt_of_cell? _ _ (M1.out.c 0 _ rfl))).trans HM1.out)
  clear hb2 hw1 x0 x1 x2 x3 x4 x5 x6 x7
  cases z with
  | false =>
    have HFIN := hide (show ∀ W, Below w.heap.size w W → ∃ q, AtQ x fold s at_ (fuC fuel) q ∧ AnF q w (.returned (.tuple #[.agg #[.int .i64 0, .int .i64 0, .slice none 0 0], .int .i64 0, .bool false, .int .i64 10])) (((W.setCell ⟨w.heap.size + 1, 0, none⟩ (.int .i64 0)).setCell ⟨w.heap.size + 1, 1, none⟩ (.int .i64 0)).setCell ⟨w.heap.size + 1, 2, none⟩ (.slice none 0 0)) from fun W hW => ⟨⟨0, 0, [], 0, false, 10⟩, by unfold AtQ; rw [if_pos HC.out], none, 0, rfl, bl_set (bl_set (bl_set (hW) (Nat.le_succ _) _) (Nat.le_succ _) _) (Nat.le_succ _) _, .inl ⟨rfl, rfl⟩⟩)
    have m0 := M2.out.c 0 _ rfl
    have m1 := M2.out.c 1 _ rfl
    have m2 := M2.out.c 2 _ rfl
    have mf := M2.out.f
    have ms := M2.out.s
    go_wp2
    refine bodyPost_ret (v := .tuple #[.agg #[.int .i64 0, .int .i64 0, .slice none 0 0], .int .i64 0, .bool false, .int .i64 10]) ?_ rfl (HFIN.out _ HB2.out)
    rw [results_cell4 rfl]
    go_simp
  | true =>
    have HXO := hide (show XOk (gM x) x 0 from ⟨(cnB_ok HC.out).1, by omega, (cnB_ok HC.out).2, HSZ.out⟩)
    have HSG := hide (show ∀ t ∈ [Kt.hold x 0], SgT t from fun k hk => by
      rw [List.mem_singleton] at hk
      subst hk
      exact ok_sg x (cnB_ok HC.out).1)
    go_wp2_with fail
    refine (HST.out _).mono ?_
    rintro e w3 ⟨Z, rfl, hb3, hZ0, hZf, hTx, hRn⟩
    have HPC := hide (place_any hTx.ok hRn at_)
    go_wp2_with fail
    refine HPC.out.mono ?_
    rintro e w4 ⟨hb4, hcase⟩
    have HB4 := hide (bl_trans (bl_trans HB2.out hb3) hb4)
    have X4 := hide (X2.out.bl (bl_trans hb3 hb4))
    have M4 := hide (M2.out.bl (bl_trans hb3 hb4))
    have HH4 := hide (((bl_trans hb3 hb4).block (w.heap.size + 1) (World.block_lt_of_cell? _ _ (M2.out.c 0 _ rfl))).trans HH2.out)
    have HR4 := hide (hRn.bl hb4)
    have HRB := hide (show w.heap.size + 1 < Z.rb by have h1 := hRn.hrb; rw [hZ0] at h1; have h2 : w.heap.size + 1 < w2.heap.size := World.block_lt_of_cell? _ _ (M2.out.c 0 _ rfl); omega)
    clear hb3 hb4
    rcases hcase with ⟨i, rfl, hi, hie⟩ | ⟨rfl, hno⟩
    rotate_left
    · rw [hTx.ps] at hno
      have HNO := hide hno
      have HFIN := hide (show ∀ W, Below w.heap.size w W → ∃ q, AtQ x fold s at_ (fuC fuel) q ∧ AnF q w (.returned (.tuple #[.agg #[.int .i64 0, .int .i64 0, .slice none 0 0], .int .i64 0, .bool false, .int .i64 3])) (((W.setCell ⟨w.heap.size + 1, 0, none⟩ (.int .i64 0)).setCell ⟨w.heap.size + 1, 1, none⟩ (.int .i64 0)).setCell ⟨w.heap.size + 1, 2, none⟩ (.slice none 0 0)) from fun W hW => ⟨⟨0, 0, [], 0, false, 3⟩, by unfold AtQ; rw [if_neg (by rw [HC.out]; decide), if_neg HNO.out], none, 0, rfl, bl_set (bl_set (bl_set (hW) (Nat.le_succ _) _) (Nat.le_succ _) _) (Nat.le_succ _) _, .inl ⟨rfl, rfl⟩⟩)
      clear hno hRn hTx hZ0 hZf
      have m0 := M4.out.c 0 _ rfl
      have m1 := M4.out.c 1 _ rfl
      have m2 := M4.out.c 2 _ rfl
      have mf := M4.out.f
      have ms := M4.out.s
      go_wp2
      refine bodyPost_ret (v := .tuple #[.agg #[.int .i64 0, .int .i64 0, .slice none 0 0], .int .i64 0, .bool false, .int .i64 3]) ?_ rfl (HFIN.out _ HB4.out)
      rw [results_cell4 rfl]
      go_simp
    · have hpl := hTx.ok.max
      have hpe : Z.ps = psS s := hTx.ps
      have HI := hide (show ∃ h : i < (psS s).length, (((psS s)[i] : Nat) : Int) = at_ from by
        have h2 : ∃ h : i < Z.ps.length, ((Z.ps[i] : Nat) : Int) = at_ := ⟨hi, hie⟩
        rw [hpe] at h2; exact h2)
      have HMEM := hide (show at_ ∈ (psS s).map (fun (n : Nat) => (n : Int)) from by
        obtain ⟨h2, h3⟩ := HI.out
        exact List.mem_map.2 ⟨_, List.getElem_mem h2, h3⟩)
      have HOF := hide (show ∀ k, ofG (psS s) k = Z.of k from fun k => by unfold ofG Rn.of; rw [hpe])
      obtain ⟨r, hr⟩ := on_total (ofG (psS s)) (tkG s (psS s) fold) (min (max fuel 0) 20000).toNat _ [.hold x 0] i (List.replicate (gM x) (-1, -1)) HSG.out (Nat.lt_succ_self _)
      have HRR := hide (show _ from hr)
      have HAT := hide (rat_any hTx HR4.out x (rx_below HHX.out (by rw [hZ0]; exact HB2.out)) HXO.out i hi (by omega) r (by rw [hZf]; exact hr))
      rw [HXV.out] at HAT
      have i0 : decide ((i : Int) < 0) = false := decide_eq_false (by omega)
      clear hr hi hie hpl hpe hTx hZ0 hZf hRn
      have x0 := X4.out.c 0 _ rfl
      have x1 := X4.out.c 1 _ rfl
      have x2 := X4.out.c 2 _ rfl
      have x3 := X4.out.c 3 _ rfl
      have x4 := X4.out.c 4 _ rfl
      have x5 := X4.out.c 5 _ rfl
      have x6 := X4.out.c 6 _ rfl
      have x7 := X4.out.c 7 _ rfl
      go_wp2_with fail
      refine HAT.out.mono ?_
      rintro e w5 ⟨hg5, hp5⟩
      clear x0 x1 x2 x3 x4 x5 x6 x7
      have HB5 := hide (show Below w.heap.size w w5 from bl_grown HB4.out hg5 (fun k hk => by injection hk with hk; have := HRB.out; omega))
      have M5 := hide (M4.out.gr hg5 (fun e => by injection e with e; have := HRB.out; omega))
      have HH5 := hide ((hg5.block (w.heap.size + 1) (World.block_lt_of_cell? _ _ (M4.out.c 0 _ rfl)) (fun e => by injection e with e; have := HRB.out; omega)).trans HH4.out)
      cases r with
      | fail f' =>
        obtain ⟨rfl, hR5⟩ := hp5
        rw [show zR = .agg #[.int .i64 0, .int .i64 0, .slice none 0 0] from rfl]
        have HB6 := hide (show Below w5.heap.size w5 (w5.alloc (.cells #[.int .i64 0, .int .i64 0, .slice none 0 0] 36)) from bl_alloc (bl_refl _) _)
        have HTD := hide (told_any (hR5.bl HB6.out) (0) (0) none 0 0 false)
        have HG6 := hide (bl_trans HB5.out HB6.out)
        have M6 := hide (M5.out.bl HB6.out)
        have HH6 := hide (show (w5.alloc (.cells #[.int .i64 0, .int .i64 0, .slice none 0 0] 36)).heap[w.heap.size + 1]? = some (.cells #[.int .i64 0, .int .i64 0, .slice none 0 0] 36) from (HB6.out.block (w.heap.size + 1) (World.block_lt_of_cell? _ _ (M5.out.c 0 _ rfl))).trans HH5.out)
        clear hR5 hg5
        go_wp2_with fail
        refine HTD.out.mono ?_
        rintro e w7 ⟨rfl, hb7⟩
        skip
        simp only [Bool.false_eq_true, if_false]
        skip
        have M7 := hide (M6.out.bl hb7)
        have m0 := M7.out.c 0 _ rfl
        have m1 := M7.out.c 1 _ rfl
        have m2 := M7.out.c 2 _ rfl
        have mf := M7.out.f
        have ms := M7.out.s
        have HB7 := hide (bl_trans HG6.out hb7)
        have HFIN := hide (show ∃ q, AtQ x fold s at_ (fuC fuel) q ∧ AnF q w (.returned (.tuple #[.agg #[.int .i64 0, .int .i64 0, .slice none 0 0], .int .i64 ((f' : Nat) : Int), .bool false, .int .i64 0])) (((w7.setCell ⟨w.heap.size + 1, 0, none⟩ (.int .i64 0)).setCell ⟨w.heap.size + 1, 1, none⟩ (.int .i64 0)).setCell ⟨w.heap.size + 1, 2, none⟩ (.slice none 0 0)) from ⟨anS (ofG (psS s)) i (.fail f'), by unfold AtQ; rw [if_neg (by rw [HC.out]; decide), if_pos HMEM.out]; exact ⟨i, (.fail f'), HI.out, HRR.out, rfl⟩, ⟨none, 0, rfl, bl_set (bl_set (bl_set (HB7.out) (Nat.le_succ _) _) (Nat.le_succ _) _) (Nat.le_succ _) _, .inl ⟨rfl, rfl⟩⟩⟩)
        clear hb7
        go_wp2
        refine bodyPost_ret (v := .tuple #[.agg #[.int .i64 0, .int .i64 0, .slice none 0 0], .int .i64 ((f' : Nat) : Int), .bool false, .int .i64 0]) ?_ rfl HFIN.out
        rw [results_cell4 rfl]
        go_simp
      | dry =>
        obtain ⟨rfl, hR5⟩ := hp5
        rw [show zR = .agg #[.int .i64 0, .int .i64 0, .slice none 0 0] from rfl]
        have HB6 := hide (show Below w5.heap.size w5 (w5.alloc (.cells #[.int .i64 0, .int .i64 0, .slice none 0 0] 36)) from bl_alloc (bl_refl _) _)
        have HTD := hide (told_any (hR5.bl HB6.out) (0) (0) none 0 0 false)
        have HG6 := hide (bl_trans HB5.out HB6.out)
        have M6 := hide (M5.out.bl HB6.out)
        have HH6 := hide (show (w5.alloc (.cells #[.int .i64 0, .int .i64 0, .slice none 0 0] 36)).heap[w.heap.size + 1]? = some (.cells #[.int .i64 0, .int .i64 0, .slice none 0 0] 36) from (HB6.out.block (w.heap.size + 1) (World.block_lt_of_cell? _ _ (M5.out.c 0 _ rfl))).trans HH5.out)
        clear hR5 hg5
        go_wp2_with fail
        refine HTD.out.mono ?_
        rintro e w7 ⟨rfl, hb7⟩
        skip
        simp only [if_true]
        rw [show zR = .agg #[.int .i64 0, .int .i64 0, .slice none 0 0] from rfl]
        have M7 := hide (M6.out.bl hb7)
        have m0 := M7.out.c 0 _ rfl
        have m1 := M7.out.c 1 _ rfl
        have m2 := M7.out.c 2 _ rfl
        have mf := M7.out.f
        have ms := M7.out.s
        have HB7 := hide (bl_trans HG6.out hb7)
        have HFIN := hide (show ∃ q, AtQ x fold s at_ (fuC fuel) q ∧ AnF q w (.returned (.tuple #[.agg #[.int .i64 0, .int .i64 0, .slice none 0 0], .int .i64 0, .bool false, .int .i64 9])) (((w7.setCell ⟨w.heap.size + 1, 0, none⟩ (.int .i64 0)).setCell ⟨w.heap.size + 1, 1, none⟩ (.int .i64 0)).setCell ⟨w.heap.size + 1, 2, none⟩ (.slice none 0 0)) from ⟨anS (ofG (psS s)) i .dry, by unfold AtQ; rw [if_neg (by rw [HC.out]; decide), if_pos HMEM.out]; exact ⟨i, .dry, HI.out, HRR.out, rfl⟩, ⟨none, 0, rfl, bl_set (bl_set (bl_set (HB7.out) (Nat.le_succ _) _) (Nat.le_succ _) _) (Nat.le_succ _) _, .inl ⟨rfl, rfl⟩⟩⟩)
        clear hb7
        go_wp2
        refine bodyPost_ret (v := .tuple #[.agg #[.int .i64 0, .int .i64 0, .slice none 0 0], .int .i64 0, .bool false, .int .i64 9]) ?_ rfl HFIN.out
        rw [results_cell4 rfl]
        go_simp
      | found j p' f' =>
        obtain ⟨v5, rfl, hR5, hP5⟩ := hp5
        obtain ⟨A5, c5, rfl⟩ := own_slice hP5.1
        obtain ⟨w6, hw6⟩ : ∃ W, (w5.alloc (.cells #[.int .i64 (Z.of i), .int .i64 (Z.of j), .slice A5 p'.length c5] 36)) = W := ⟨_, rfl⟩
        have HB6 : Hid (Below w5.heap.size w5 w6) := hide (by rw [← hw6]; exact bl_alloc (bl_refl _) _)
        have N6 : Hid (Cm w6 w5.heap.size [.int .i64 (Z.of i), .int .i64 (Z.of j), .slice A5 p'.length c5]) := hide (by rw [← hw6]; exact cm_new [.int .i64 (Z.of i), .int .i64 (Z.of j), .slice A5 p'.length c5] 36 rfl)
        have n0 := N6.out.c 0 _ rfl
        have n1 := N6.out.c 1 _ rfl
        have n2 := N6.out.c 2 _ rfl
        have ns := N6.out.s
        have HTD := hide (told_any (hR5.bl HB6.out) (Z.of i) (Z.of j) A5 p'.length c5 true)
        have HG6 := hide (bl_trans HB5.out HB6.out)
        have HP6 := hide (hP5.bl HB6.out)
        have M6 := hide (M5.out.bl HB6.out)
        have HH6 := hide (show w6.heap[w.heap.size + 1]? = some (.cells #[.int .i64 0, .int .i64 0, .slice none 0 0] 36) from (HB6.out.block (w.heap.size + 1) (World.block_lt_of_cell? _ _ (M5.out.c 0 _ rfl))).trans HH5.out)
        clear hR5 hP5 hg5
        go_wp2_with fail
        refine HTD.out.mono ?_
        rintro e w7 ⟨rfl, hb7⟩
        clear n0 n1 n2 ns
        simp only [Bool.false_eq_true, if_false]
        skip
        have M7 := hide (M6.out.bl hb7)
        have m0 := M7.out.c 0 _ rfl
        have m1 := M7.out.c 1 _ rfl
        have m2 := M7.out.c 2 _ rfl
        have mf := M7.out.f
        have ms := M7.out.s
        have HB7 := hide (bl_trans HG6.out hb7)
        have HH7 := hide (show w7.heap[w.heap.size + 1]? = some (.cells #[.int .i64 0, .int .i64 0, .slice none 0 0] 36) from (hb7.block (w.heap.size + 1) (World.block_lt_of_cell? _ _ (M6.out.c 0 _ rfl))).trans HH6.out)
        have hk0 := HP6.out.bl hb7
        have hnb := row_ne_block hk0.1 HH7.out (by decide)
        have HSP := hide (show SpAt (((w7.setCell ⟨w.heap.size + 1, 0, none⟩ (.int .i64 (Z.of i))).setCell ⟨w.heap.size + 1, 1, none⟩ (.int .i64 (Z.of j))).setCell ⟨w.heap.size + 1, 2, none⟩ (.slice A5 p'.length c5)) (.slice A5 p'.length c5) p' from by
          have k1 := row_kept hk0.1 (gr_set w7 (w.heap.size + 1) 0 (.int .i64 (Z.of i))) (fun k hk e => hnb (by rw [e, ← hk]))
          have k2 := row_kept k1 (gr_set _ (w.heap.size + 1) 1 (.int .i64 (Z.of j))) (fun k hk e => hnb (by rw [e, ← hk]))
          exact own_spat (row_kept k2 (gr_set _ (w.heap.size + 1) 2 (.slice A5 p'.length c5)) (fun k hk e => hnb (by rw [e, ← hk]))))
        have HFIN := hide (show ∃ q, AtQ x fold s at_ (fuC fuel) q ∧ AnF q w (.returned (.tuple #[.agg #[.int .i64 (Z.of i), .int .i64 (Z.of j), .slice A5 p'.length c5], .int .i64 ((f' : Nat) : Int), .bool true, .int .i64 0])) (((w7.setCell ⟨w.heap.size + 1, 0, none⟩ (.int .i64 (Z.of i))).setCell ⟨w.heap.size + 1, 1, none⟩ (.int .i64 (Z.of j))).setCell ⟨w.heap.size + 1, 2, none⟩ (.slice A5 p'.length c5)) from ⟨anS (ofG (psS s)) i (.found j p' f'), by unfold AtQ; rw [if_neg (by rw [HC.out]; decide), if_pos HMEM.out]; exact ⟨i, (.found j p' f'), HI.out, HRR.out, rfl⟩, ⟨A5, c5, by rw [show (anS (ofG (psS s)) i (.found j p' f')).a = Z.of i from HOF.out i, show (anS (ofG (psS s)) i (.found j p' f')).b = Z.of j from HOF.out j]; rfl, bl_set (bl_set (bl_set (HB7.out) (Nat.le_succ _) _) (Nat.le_succ _) _) (Nat.le_succ _) _, HSP.out⟩⟩)
        clear hb7 hk0 hnb
        go_wp2
        refine bodyPost_ret (v := .tuple #[.agg #[.int .i64 (Z.of i), .int .i64 (Z.of j), .slice A5 p'.length c5], .int .i64 ((f' : Nat) : Int), .bool true, .int .i64 0]) ?_ rfl HFIN.out
        rw [results_cell4 rfl]
        go_simp
set_option maxHeartbeats 16000000 in
theorem rFind_q {w : World} {x : Rt} (hx : RxAt w x) (hsz : sM x ≤ 1000) (fold : Bool) (s : ByteArray) (hs : s.size ≤ 999) (at_ fuel : Int) :
    Calls Tryz.prog 20 #[x.v, .bool fold, .string s, .int .i64 at_, .int .i64 fuel] w fun e w' => ∃ q, FiQ x fold s at_ (fuC fuel) q ∧ AnF q w e w' := by
  obtain ⟨xR, xd, hxr⟩ := rwat_len hx.rows
  obtain ⟨xK, xe, hxk⟩ := ksat_len hx.ks
  have hxv : x.v = .agg #[.int .i64 x.k, .string x.ch, .bool x.nt, .slice xR x.rows.length xd, .int .i64 x.mi, .int .i64 x.ma, .bool x.lz, .slice xK x.kids.length xe] := by unfold Rt.v Rt.cs; rw [hxr, hxk]
  have HMY := hide (fun (W : World) (hb : Below w.heap.size w W) => rxrmay_any hx (by omega) W hb)
  unfold SmPost at HMY
  rw [hxv] at HMY
  have HST := hide (fun W => start_any fold s fuel hs W)
  obtain ⟨w1, hw1⟩ : ∃ W, ((w.alloc (.cells #[.int .i64 x.k, .string x.ch, .bool x.nt, .slice xR x.rows.length xd, .int .i64 x.mi, .int .i64 x.ma, .bool x.lz, .slice xK x.kids.length xe] 25)).alloc (.cells #[.int .i64 0, .int .i64 0, .slice none 0 0] 36)) = W := ⟨_, rfl⟩
  have HB1 : Hid (Below w.heap.size w w1) := hide (by rw [← hw1]; exact bl_alloc (bl_alloc (bl_refl w) _) _)
  have X1 : Hid (Cm w1 w.heap.size [.int .i64 x.k, .string x.ch, .bool x.nt, .slice xR x.rows.length xd, .int .i64 x.mi, .int .i64 x.ma, .bool x.lz, .slice xK x.kids.length xe]) := hide (by rw [← hw1]; exact (cm_new [.int .i64 x.k, .string x.ch, .bool x.nt, .slice xR x.rows.length xd, .int .i64 x.mi, .int .i64 x.ma, .bool x.lz, .slice xK x.kids.length xe] 25 rfl).bl (bl_alloc (bl_refl _) _))
  have M1 : Hid (Cm w1 (w.heap.size + 1) [.int .i64 0, .int .i64 0, .slice none 0 0]) := hide (by rw [← hw1]; exact cm_new [.int .i64 0, .int .i64 0, .slice none 0 0] 36 (by simp))
  have HM1 : Hid (w1.heap[w.heap.size + 1]? = some (.cells #[.int .i64 0, .int .i64 0, .slice none 0 0] 36)) := hide (by rw [← hw1]; exact heap_new (by simp))
  have HHX := hide hx
  have HXV := hide hxv
  have HSZ := hide hsz
  obtain ⟨z, hz⟩ : ∃ z, cnB x 16 512 = z := ⟨_, rfl⟩
  rw [hz] at HMY
  have HC := hide hz
  rw [hxv]
  clear hx hsz hxr hxk hxv hs hz
  have x0 := X1.out.c 0 _ rfl
  have x1 := X1.out.c 1 _ rfl
  have x2 := X1.out.c 2 _ rfl
  have x3 := X1.out.c 3 _ rfl
  have x4 := X1.out.c 4 _ rfl
  have x5 := X1.out.c 5 _ rfl
  have x6 := X1.out.c 6 _ rfl
  have x7 := X1.out.c 7 _ rfl
  go_enter Tryz.func20, Tryz.ntmps20
  go_wp2_with fail
  refine (HMY.out _ HB1.out).mono ?_
  rintro e w2 ⟨rfl, hb2⟩
  have HB2 := hide (bl_trans HB1.out hb2)
  have X2 := hide (X1.out.bl hb2)
  have M2 := hide (M1.out.bl hb2)
  have HH2 := hide ((hb2.block (w.heap.size + 1) (World.block_lt_of_cell? _ _ (M1.out.c 0 _ rfl))).trans HM1.out)
  clear hb2 hw1 x0 x1 x2 x3 x4 x5 x6 x7
  cases z with
  | false =>
    have HFIN := hide (show ∀ W, Below w.heap.size w W → ∃ q, FiQ x fold s at_ (fuC fuel) q ∧ AnF q w (.returned (.tuple #[.agg #[.int .i64 0, .int .i64 0, .slice none 0 0], .int .i64 0, .bool false, .int .i64 10])) (((W.setCell ⟨w.heap.size + 1, 0, none⟩ (.int .i64 0)).setCell ⟨w.heap.size + 1, 1, none⟩ (.int .i64 0)).setCell ⟨w.heap.size + 1, 2, none⟩ (.slice none 0 0)) from fun W hW => ⟨⟨0, 0, [], 0, false, 10⟩, by unfold FiQ; rw [if_pos HC.out], none, 0, rfl, bl_set (bl_set (bl_set (hW) (Nat.le_succ _) _) (Nat.le_succ _) _) (Nat.le_succ _) _, .inl ⟨rfl, rfl⟩⟩)
    have m0 := M2.out.c 0 _ rfl
    have m1 := M2.out.c 1 _ rfl
    have m2 := M2.out.c 2 _ rfl
    have mf := M2.out.f
    have ms := M2.out.s
    go_wp2
    refine bodyPost_ret (v := .tuple #[.agg #[.int .i64 0, .int .i64 0, .slice none 0 0], .int .i64 0, .bool false, .int .i64 10]) ?_ rfl (HFIN.out _ HB2.out)
    rw [results_cell4 rfl]
    go_simp
  | true =>
    have HXO := hide (show XOk (gM x) x 0 from ⟨(cnB_ok HC.out).1, by omega, (cnB_ok HC.out).2, HSZ.out⟩)
    have HSG := hide (show ∀ t ∈ [Kt.hold x 0], SgT t from fun k hk => by
      rw [List.mem_singleton] at hk
      subst hk
      exact ok_sg x (cnB_ok HC.out).1)
    go_wp2_with fail
    refine (HST.out _).mono ?_
    rintro e w3 ⟨Z, rfl, hb3, hZ0, hZf, hTx, hRn⟩
    have HPC := hide (place_any hTx.ok hRn at_)
    go_wp2_with fail
    refine HPC.out.mono ?_
    rintro e w4 ⟨hb4, hcase⟩
    have HB4 := hide (bl_trans (bl_trans HB2.out hb3) hb4)
    have X4 := hide (X2.out.bl (bl_trans hb3 hb4))
    have M4 := hide (M2.out.bl (bl_trans hb3 hb4))
    have HH4 := hide (((bl_trans hb3 hb4).block (w.heap.size + 1) (World.block_lt_of_cell? _ _ (M2.out.c 0 _ rfl))).trans HH2.out)
    have HR4 := hide (hRn.bl hb4)
    have HRB := hide (show w.heap.size + 1 < Z.rb by have h1 := hRn.hrb; rw [hZ0] at h1; have h2 : w.heap.size + 1 < w2.heap.size := World.block_lt_of_cell? _ _ (M2.out.c 0 _ rfl); omega)
    clear hb3 hb4
    rcases hcase with ⟨i, rfl, hi, hie⟩ | ⟨rfl, hno⟩
    rotate_left
    · rw [hTx.ps] at hno
      have HNO := hide hno
      have HFIN := hide (show ∀ W, Below w.heap.size w W → ∃ q, FiQ x fold s at_ (fuC fuel) q ∧ AnF q w (.returned (.tuple #[.agg #[.int .i64 0, .int .i64 0, .slice none 0 0], .int .i64 0, .bool false, .int .i64 3])) (((W.setCell ⟨w.heap.size + 1, 0, none⟩ (.int .i64 0)).setCell ⟨w.heap.size + 1, 1, none⟩ (.int .i64 0)).setCell ⟨w.heap.size + 1, 2, none⟩ (.slice none 0 0)) from fun W hW => ⟨⟨0, 0, [], 0, false, 3⟩, by unfold FiQ; rw [if_neg (by rw [HC.out]; decide), if_neg HNO.out], none, 0, rfl, bl_set (bl_set (bl_set (hW) (Nat.le_succ _) _) (Nat.le_succ _) _) (Nat.le_succ _) _, .inl ⟨rfl, rfl⟩⟩)
      clear hno hRn hTx hZ0 hZf
      have m0 := M4.out.c 0 _ rfl
      have m1 := M4.out.c 1 _ rfl
      have m2 := M4.out.c 2 _ rfl
      have mf := M4.out.f
      have ms := M4.out.s
      go_wp2
      refine bodyPost_ret (v := .tuple #[.agg #[.int .i64 0, .int .i64 0, .slice none 0 0], .int .i64 0, .bool false, .int .i64 3]) ?_ rfl (HFIN.out _ HB4.out)
      rw [results_cell4 rfl]
      go_simp
    · have hpl := hTx.ok.max
      have hpe : Z.ps = psS s := hTx.ps
      have HI := hide (show ∃ h : i < (psS s).length, (((psS s)[i] : Nat) : Int) = at_ from by
        have h2 : ∃ h : i < Z.ps.length, ((Z.ps[i] : Nat) : Int) = at_ := ⟨hi, hie⟩
        rw [hpe] at h2; exact h2)
      have HMEM := hide (show at_ ∈ (psS s).map (fun (n : Nat) => (n : Int)) from by
        obtain ⟨h2, h3⟩ := HI.out
        exact List.mem_map.2 ⟨_, List.getElem_mem h2, h3⟩)
      have HOF := hide (show ∀ k, ofG (psS s) k = Z.of k from fun k => by unfold ofG Rn.of; rw [hpe])
      obtain ⟨st, r, hr⟩ := fd_total (Q := QG (ofG (psS s)) (tkG s (psS s) fold) x (gM x)) (N := (psS s).length) (fun f j => on_total (ofG (psS s)) (tkG s (psS s) fold) f _ [.hold x 0] j (List.replicate (gM x) (-1, -1)) HSG.out (Nat.lt_succ_self _)) (psS s).length (min (max fuel 0) 20000).toNat i (by omega)
      have HRR := hide (show _ from hr)
      have HAT := hide (rfind_any hTx HR4.out x (rx_below HHX.out (by rw [hZ0]; exact HB2.out)) HXO.out i (by omega) (by omega) st r (by rw [hZf, hTx.ps]; exact hr))
      rw [HXV.out] at HAT
      have i0 : decide ((i : Int) < 0) = false := decide_eq_false (by omega)
      clear hr hi hie hpl hpe hTx hZ0 hZf hRn
      have x0 := X4.out.c 0 _ rfl
      have x1 := X4.out.c 1 _ rfl
      have x2 := X4.out.c 2 _ rfl
      have x3 := X4.out.c 3 _ rfl
      have x4 := X4.out.c 4 _ rfl
      have x5 := X4.out.c 5 _ rfl
      have x6 := X4.out.c 6 _ rfl
      have x7 := X4.out.c 7 _ rfl
      go_wp2_with fail
      refine HAT.out.mono ?_
      rintro e w5 ⟨hg5, hp5⟩
      clear x0 x1 x2 x3 x4 x5 x6 x7
      have HB5 := hide (show Below w.heap.size w w5 from bl_grown HB4.out hg5 (fun k hk => by injection hk with hk; have := HRB.out; omega))
      have M5 := hide (M4.out.gr hg5 (fun e => by injection e with e; have := HRB.out; omega))
      have HH5 := hide ((hg5.block (w.heap.size + 1) (World.block_lt_of_cell? _ _ (M4.out.c 0 _ rfl)) (fun e => by injection e with e; have := HRB.out; omega)).trans HH4.out)
      cases r with
      | fail f' =>
        obtain ⟨rfl, hR5⟩ := hp5
        rw [show zR = .agg #[.int .i64 0, .int .i64 0, .slice none 0 0] from rfl]
        have HB6 := hide (show Below w5.heap.size w5 (w5.alloc (.cells #[.int .i64 0, .int .i64 0, .slice none 0 0] 36)) from bl_alloc (bl_refl _) _)
        have HTD := hide (told_any (hR5.bl HB6.out) (0) (0) none 0 0 false)
        have HG6 := hide (bl_trans HB5.out HB6.out)
        have M6 := hide (M5.out.bl HB6.out)
        have HH6 := hide (show (w5.alloc (.cells #[.int .i64 0, .int .i64 0, .slice none 0 0] 36)).heap[w.heap.size + 1]? = some (.cells #[.int .i64 0, .int .i64 0, .slice none 0 0] 36) from (HB6.out.block (w.heap.size + 1) (World.block_lt_of_cell? _ _ (M5.out.c 0 _ rfl))).trans HH5.out)
        clear hR5 hg5
        go_wp2_with fail
        refine HTD.out.mono ?_
        rintro e w7 ⟨rfl, hb7⟩
        skip
        simp only [Bool.false_eq_true, if_false]
        skip
        have M7 := hide (M6.out.bl hb7)
        have m0 := M7.out.c 0 _ rfl
        have m1 := M7.out.c 1 _ rfl
        have m2 := M7.out.c 2 _ rfl
        have mf := M7.out.f
        have ms := M7.out.s
        have HB7 := hide (bl_trans HG6.out hb7)
        have HFIN := hide (show ∃ q, FiQ x fold s at_ (fuC fuel) q ∧ AnF q w (.returned (.tuple #[.agg #[.int .i64 0, .int .i64 0, .slice none 0 0], .int .i64 ((f' : Nat) : Int), .bool false, .int .i64 0])) (((w7.setCell ⟨w.heap.size + 1, 0, none⟩ (.int .i64 0)).setCell ⟨w.heap.size + 1, 1, none⟩ (.int .i64 0)).setCell ⟨w.heap.size + 1, 2, none⟩ (.slice none 0 0)) from ⟨anS (ofG (psS s)) st (.fail f'), by unfold FiQ; rw [if_neg (by rw [HC.out]; decide), if_pos HMEM.out]; exact ⟨i, st, (.fail f'), HI.out, HRR.out, rfl⟩, ⟨none, 0, rfl, bl_set (bl_set (bl_set (HB7.out) (Nat.le_succ _) _) (Nat.le_succ _) _) (Nat.le_succ _) _, .inl ⟨rfl, rfl⟩⟩⟩)
        clear hb7
        go_wp2
        refine bodyPost_ret (v := .tuple #[.agg #[.int .i64 0, .int .i64 0, .slice none 0 0], .int .i64 ((f' : Nat) : Int), .bool false, .int .i64 0]) ?_ rfl HFIN.out
        rw [results_cell4 rfl]
        go_simp
      | dry =>
        obtain ⟨rfl, hR5⟩ := hp5
        rw [show zR = .agg #[.int .i64 0, .int .i64 0, .slice none 0 0] from rfl]
        have HB6 := hide (show Below w5.heap.size w5 (w5.alloc (.cells #[.int .i64 0, .int .i64 0, .slice none 0 0] 36)) from bl_alloc (bl_refl _) _)
        have HTD := hide (told_any (hR5.bl HB6.out) (0) (0) none 0 0 false)
        have HG6 := hide (bl_trans HB5.out HB6.out)
        have M6 := hide (M5.out.bl HB6.out)
        have HH6 := hide (show (w5.alloc (.cells #[.int .i64 0, .int .i64 0, .slice none 0 0] 36)).heap[w.heap.size + 1]? = some (.cells #[.int .i64 0, .int .i64 0, .slice none 0 0] 36) from (HB6.out.block (w.heap.size + 1) (World.block_lt_of_cell? _ _ (M5.out.c 0 _ rfl))).trans HH5.out)
        clear hR5 hg5
        go_wp2_with fail
        refine HTD.out.mono ?_
        rintro e w7 ⟨rfl, hb7⟩
        skip
        simp only [if_true]
        rw [show zR = .agg #[.int .i64 0, .int .i64 0, .slice none 0 0] from rfl]
        have M7 := hide (M6.out.bl hb7)
        have m0 := M7.out.c 0 _ rfl
        have m1 := M7.out.c 1 _ rfl
        have m2 := M7.out.c 2 _ rfl
        have mf := M7.out.f
        have ms := M7.out.s
        have HB7 := hide (bl_trans HG6.out hb7)
        have HFIN := hide (show ∃ q, FiQ x fold s at_ (fuC fuel) q ∧ AnF q w (.returned (.tuple #[.agg #[.int .i64 0, .int .i64 0, .slice none 0 0], .int .i64 0, .bool false, .int .i64 9])) (((w7.setCell ⟨w.heap.size + 1, 0, none⟩ (.int .i64 0)).setCell ⟨w.heap.size + 1, 1, none⟩ (.int .i64 0)).setCell ⟨w.heap.size + 1, 2, none⟩ (.slice none 0 0)) from ⟨anS (ofG (psS s)) st .dry, by unfold FiQ; rw [if_neg (by rw [HC.out]; decide), if_pos HMEM.out]; exact ⟨i, st, .dry, HI.out, HRR.out, rfl⟩, ⟨none, 0, rfl, bl_set (bl_set (bl_set (HB7.out) (Nat.le_succ _) _) (Nat.le_succ _) _) (Nat.le_succ _) _, .inl ⟨rfl, rfl⟩⟩⟩)
        clear hb7
        go_wp2
        refine bodyPost_ret (v := .tuple #[.agg #[.int .i64 0, .int .i64 0, .slice none 0 0], .int .i64 0, .bool false, .int .i64 9]) ?_ rfl HFIN.out
        rw [results_cell4 rfl]
        go_simp
      | found j p' f' =>
        obtain ⟨v5, rfl, hR5, hP5⟩ := hp5
        obtain ⟨A5, c5, rfl⟩ := own_slice hP5.1
        obtain ⟨w6, hw6⟩ : ∃ W, (w5.alloc (.cells #[.int .i64 (Z.of st), .int .i64 (Z.of j), .slice A5 p'.length c5] 36)) = W := ⟨_, rfl⟩
        have HB6 : Hid (Below w5.heap.size w5 w6) := hide (by rw [← hw6]; exact bl_alloc (bl_refl _) _)
        have N6 : Hid (Cm w6 w5.heap.size [.int .i64 (Z.of st), .int .i64 (Z.of j), .slice A5 p'.length c5]) := hide (by rw [← hw6]; exact cm_new [.int .i64 (Z.of st), .int .i64 (Z.of j), .slice A5 p'.length c5] 36 rfl)
        have n0 := N6.out.c 0 _ rfl
        have n1 := N6.out.c 1 _ rfl
        have n2 := N6.out.c 2 _ rfl
        have ns := N6.out.s
        have HTD := hide (told_any (hR5.bl HB6.out) (Z.of st) (Z.of j) A5 p'.length c5 true)
        have HG6 := hide (bl_trans HB5.out HB6.out)
        have HP6 := hide (hP5.bl HB6.out)
        have M6 := hide (M5.out.bl HB6.out)
        have HH6 := hide (show w6.heap[w.heap.size + 1]? = some (.cells #[.int .i64 0, .int .i64 0, .slice none 0 0] 36) from (HB6.out.block (w.heap.size + 1) (World.block_lt_of_cell? _ _ (M5.out.c 0 _ rfl))).trans HH5.out)
        clear hR5 hP5 hg5
        go_wp2_with fail
        refine HTD.out.mono ?_
        rintro e w7 ⟨rfl, hb7⟩
        clear n0 n1 n2 ns
        simp only [Bool.false_eq_true, if_false]
        skip
        have M7 := hide (M6.out.bl hb7)
        have m0 := M7.out.c 0 _ rfl
        have m1 := M7.out.c 1 _ rfl
        have m2 := M7.out.c 2 _ rfl
        have mf := M7.out.f
        have ms := M7.out.s
        have HB7 := hide (bl_trans HG6.out hb7)
        have HH7 := hide (show w7.heap[w.heap.size + 1]? = some (.cells #[.int .i64 0, .int .i64 0, .slice none 0 0] 36) from (hb7.block (w.heap.size + 1) (World.block_lt_of_cell? _ _ (M6.out.c 0 _ rfl))).trans HH6.out)
        have hk0 := HP6.out.bl hb7
        have hnb := row_ne_block hk0.1 HH7.out (by decide)
        have HSP := hide (show SpAt (((w7.setCell ⟨w.heap.size + 1, 0, none⟩ (.int .i64 (Z.of st))).setCell ⟨w.heap.size + 1, 1, none⟩ (.int .i64 (Z.of j))).setCell ⟨w.heap.size + 1, 2, none⟩ (.slice A5 p'.length c5)) (.slice A5 p'.length c5) p' from by
          have k1 := row_kept hk0.1 (gr_set w7 (w.heap.size + 1) 0 (.int .i64 (Z.of st))) (fun k hk e => hnb (by rw [e, ← hk]))
          have k2 := row_kept k1 (gr_set _ (w.heap.size + 1) 1 (.int .i64 (Z.of j))) (fun k hk e => hnb (by rw [e, ← hk]))
          exact own_spat (row_kept k2 (gr_set _ (w.heap.size + 1) 2 (.slice A5 p'.length c5)) (fun k hk e => hnb (by rw [e, ← hk]))))
        have HFIN := hide (show ∃ q, FiQ x fold s at_ (fuC fuel) q ∧ AnF q w (.returned (.tuple #[.agg #[.int .i64 (Z.of st), .int .i64 (Z.of j), .slice A5 p'.length c5], .int .i64 ((f' : Nat) : Int), .bool true, .int .i64 0])) (((w7.setCell ⟨w.heap.size + 1, 0, none⟩ (.int .i64 (Z.of st))).setCell ⟨w.heap.size + 1, 1, none⟩ (.int .i64 (Z.of j))).setCell ⟨w.heap.size + 1, 2, none⟩ (.slice A5 p'.length c5)) from ⟨anS (ofG (psS s)) st (.found j p' f'), by unfold FiQ; rw [if_neg (by rw [HC.out]; decide), if_pos HMEM.out]; exact ⟨i, st, (.found j p' f'), HI.out, HRR.out, rfl⟩, ⟨A5, c5, by rw [show (anS (ofG (psS s)) st (.found j p' f')).a = Z.of st from HOF.out st, show (anS (ofG (psS s)) st (.found j p' f')).b = Z.of j from HOF.out j]; rfl, bl_set (bl_set (bl_set (HB7.out) (Nat.le_succ _) _) (Nat.le_succ _) _) (Nat.le_succ _) _, HSP.out⟩⟩)
        clear hb7 hk0 hnb
        go_wp2
        refine bodyPost_ret (v := .tuple #[.agg #[.int .i64 (Z.of st), .int .i64 (Z.of j), .slice A5 p'.length c5], .int .i64 ((f' : Nat) : Int), .bool true, .int .i64 0]) ?_ rfl HFIN.out
        rw [results_cell4 rfl]
        go_simp
end Go.Proofs.YtcnliipkfccohaaGreat
end
