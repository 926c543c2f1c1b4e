/- Contracts of layer 3's laws: are pieces a tree by their depths and priorities; are they the text. Condition: a text that is not too long. -/
import Derived.Test.YtidfpnedbcaicaaRopP
namespace Go.Proofs.Ytidfpnedbcaicaa
open Go.ChangeShapes Go.WideShapes Go.ChangeAt Go.RowKit
attribute [local go_sem ↓] Go.wp_at_zero Go.wp_at_succ
set_option maxRecDepth 100000
theorem pd_ge (t : T) : ∀ k, ∀ q ∈ t.pd k, k ≤ q.2.2 := by
  induction t with
  | nil => intro k q hq; simp [T.pd] at hq
  | node l n x p r ihl ihr =>
    intro k q hq
    rw [T.pd] at hq
    rcases List.mem_append.1 hq with hq | hq
    · have := ihl (k + 1) q hq; omega
    · rcases List.mem_cons.1 hq with rfl | hq
      · exact Int.le_refl _
      · have := ihr (k + 1) q hq; omega
theorem seg_mem {A P Z : List Pd} (i : Nat) (h1 : A.length ≤ i) (h2 : i < A.length + P.length) (h : i < (A ++ (P ++ Z)).length) : (A ++ (P ++ Z))[i] ∈ P := by
  rw [List.getElem_append_right h1, List.getElem_append_left (by omega)]
  exact List.getElem_mem _
theorem seg_at {A Z : List Pd} (q : Pd) (h : A.length < (A ++ q :: Z).length) : (A ++ q :: Z)[A.length] = q := by
  rw [List.getElem_append_right (Nat.le_refl _)]
  simp
theorem flatP_get (l : List Pd) (i k : Nat) (h : i < l.length) (hk : k < 3) : (flatP l)[i * 3 + k]? = (encP l[i])[k]? := by
  induction l generalizing i with
  | nil => simp at h
  | cons a r ih =>
    have he : (encP a).length = 3 := rfl
    rw [show flatP (a :: r) = encP a ++ flatP r from rfl]
    cases i with
    | zero => rw [List.getElem?_append_left (by omega), Nat.zero_mul, Nat.zero_add]; rfl
    | succ i =>
      rw [List.getElem?_append_right (by omega), he, show (i + 1) * 3 + k - 3 = i * 3 + k by omega]
      exact ih i (by simpa using h)
/-- A slice that reads as these pieces. -/
def PdAt (w : World) (a : Option Addr) (c : Nat) (l : List Pd) : Prop :=
  l = [] ∨ ∃ g, a = some ⟨g, 0, none⟩ ∧ g < w.heap.size ∧ l.length ≤ c ∧ c ≤ maxLen ∧ ∀ i (h : i < l.length), w.cell? ⟨g, i * 3, none⟩ = some (.string l[i].1) ∧ w.cell? ⟨g, i * 3 + 1, none⟩ = some (.int .u32 l[i].2.1) ∧ w.cell? ⟨g, i * 3 + 2, none⟩ = some (.int .i64 l[i].2.2)
theorem own_pdat {w : World} {B n : Nat} {a : Option Addr} {c : Nat} {l : List Pd} (h : w.ownsRow B 60 3 (.slice a n c) n (flatP l)) (hn : n = l.length) : PdAt w a c l := by
  subst hn
  by_cases h0 : l = []
  · exact .inl h0
  · rcases own_form h with ⟨_, h1, _⟩ | ⟨g, c', hv, _, h2, h3, h4, h5⟩
    · exact absurd (List.eq_nil_of_length_eq_zero h1) h0
    · injection hv with hv _ hvc
      subst hv hvc
      refine .inr ⟨g, rfl, h2, h3, h4, fun i hi => ⟨?_, ?_, ?_⟩⟩
      · exact h5 (i * 3) _ (by have := flatP_get l i 0 hi (by omega); rw [Nat.add_zero] at this; rw [this]; rfl)
      · exact h5 (i * 3 + 1) _ (by rw [flatP_get l i 1 hi (by omega)]; rfl)
      · exact h5 (i * 3 + 2) _ (by rw [flatP_get l i 2 hi (by omega)]; rfl)
theorem pdat_bl {w w' : World} {a : Option Addr} {c : Nat} {l : List Pd} (h : PdAt w a c l) (hb : Below w.heap.size w w') : PdAt w' a c l := by
  rcases h with h | ⟨g, h1, h2, h3, h4, h5⟩
  · exact .inl h
  · exact .inr ⟨g, h1, Nat.lt_of_lt_of_le h2 hb.size, h3, h4, fun i hi => ⟨cell_later hb (h5 i hi).1, cell_later hb (h5 i hi).2.1, cell_later hb (h5 i hi).2.2⟩⟩
def UnderRel (lo m0 hi : Nat) (w : World) (root i : Value) (wr : World) : Prop := ∃ j : Nat, i = .int .i64 j ∧ lo ≤ j ∧ j ≤ hi ∧ ((j ≤ m0 ∧ root = .int .i64 (-1)) ∨ (m0 < j ∧ root = .int .i64 m0)) ∧ w = wr
set_option maxHeartbeats 8000000 in
theorem under_any (w : World) (a : Option Addr) (c : Nat) (L : List Pd) (hL : PdAt w a c L) (t : T) : ∀ (A Z : List Pd) (deep prio lo hi : Int), L = A ++ (t.pd deep ++ Z) → t.Hp → t.top prio → lo = A.length → hi = (A.length : Int) + t.ps.length → 0 ≤ deep → deep + t.ps.length ≤ 1000000 →
    Calls Try.prog 40 #[.slice a L.length c, .int .i64 lo, .int .i64 hi, .int .i64 deep, .int .u32 prio] w fun e w' => e = .returned (.bool true) ∧ w = w' := by
  induction t with
  | nil =>
    intro A Z deep prio lo hi _ _ _ hlo hhi _ _
    have hh : hi = lo := by rw [hlo, hhi]; simp [T.ps]
    subst hh
    clear hlo hhi
    go_enter Try.func40, Try.ntmps40
    go_wp2
    refine wp_loop_rounds 1 ?_
    rw [rounds_succ]
    go_wp2
    go_ret
    exact ⟨rfl, rfl⟩
  | node l n x p r ihl ihr =>
    intro A Z deep prio lo hi hLL hp htop hlo hhi hd1 hd2
    obtain ⟨hp1, hp2, hp3, hp4⟩ := hp
    have hlen : (T.node l n x p r).ps.length = l.ps.length + (r.ps.length + 1) := by simp [T.ps]
    rw [hlen] at hhi hd2
    obtain ⟨La, hLa⟩ : ∃ La : Nat, A.length = La := ⟨_, rfl⟩
    obtain ⟨Ll, hLl⟩ : ∃ Ll : Nat, l.ps.length = Ll := ⟨_, rfl⟩
    obtain ⟨Lr, hLr⟩ : ∃ Lr : Nat, r.ps.length = Lr := ⟨_, rfl⟩
    have e1 : L = A ++ (l.pd (deep + 1) ++ ((x, p, deep) :: (r.pd (deep + 1) ++ Z))) := by rw [hLL, T.pd]; simp
    have e2 : L = (A ++ l.pd (deep + 1)) ++ ((x, p, deep) :: (r.pd (deep + 1) ++ Z)) := by rw [e1]; simp
    have e3 : L = (A ++ l.pd (deep + 1) ++ [(x, p, deep)]) ++ (r.pd (deep + 1) ++ Z) := by rw [e1]; simp
    have hpl := T.pd_len l (deep + 1)
    have hpr := T.pd_len r (deep + 1)
    have hll : La + Ll + Lr < L.length := by rw [e1]; simp only [List.length_append, List.length_cons]; omega
    have hne : L ≠ [] := by intro e; rw [e] at hll; simp at hll
    obtain ⟨g, rfl, hg, hc1, hc2, hcell⟩ := hL.resolve_left hne
    unfold maxLen at hc2
    -- the depths
    have hd_l : ∀ i (h : i < L.length), La ≤ i → i < La + Ll → deep < L[i].2.2 := fun i h h1 h2 => by
      have hm : L[i] ∈ l.pd (deep + 1) := by
        have := seg_mem (A := A) (P := l.pd (deep + 1)) (Z := (x, p, deep) :: (r.pd (deep + 1) ++ Z)) i (by omega) (by omega) (by rw [← e1]; exact h)
        simpa only [← e1] using this
      have := pd_ge l (deep + 1) _ hm; omega
    have hd_m : ∀ (h : La + Ll < L.length), L[La + Ll] = (x, p, deep) := fun h => by
      have := seg_at (A := A ++ l.pd (deep + 1)) (Z := r.pd (deep + 1) ++ Z) (x, p, deep) (by rw [← e2, List.length_append]; omega)
      have hl2 : (A ++ l.pd (deep + 1)).length = La + Ll := by rw [List.length_append]; omega
      simp only [hl2, ← e2] at this
      exact this
    have hd_r : ∀ i (h : i < L.length), La + Ll < i → i < La + Ll + 1 + Lr → deep < L[i].2.2 := fun i h h1 h2 => by
      have hl3 : (A ++ l.pd (deep + 1) ++ [(x, p, deep)]).length = La + Ll + 1 := by simp only [List.length_append, List.length_cons, List.length_nil]; omega
      have hm : L[i] ∈ r.pd (deep + 1) := by
        have := seg_mem (A := A ++ l.pd (deep + 1) ++ [(x, p, deep)]) (P := r.pd (deep + 1)) (Z := Z) i (by omega) (by omega) (by rw [← e3]; exact h)
        simpa only [← e3] using this
      have := pd_ge r (deep + 1) _ hm; omega
    have HIL := hide (ihl A ((x, p, deep) :: (r.pd (deep + 1) ++ Z)) (deep + 1) p lo ((La : Int) + Ll) e1 hp1 hp3 hlo (by omega) (by omega) (by omega))
    have HIR := hide (ihr (A ++ l.pd (deep + 1) ++ [(x, p, deep)]) Z (deep + 1) p ((La : Int) + Ll + 1) hi e3 hp2 hp4 (by simp only [List.length_append, List.length_cons, List.length_nil]; omega) (by simp only [List.length_append, List.length_cons, List.length_nil]; omega) (by omega) (by omega))
    have hcm := hcell (La + Ll) (by omega)
    rw [hd_m (by omega)] at hcm
    obtain ⟨m4, m9, mk⟩ := hcm
    simp only at m4 m9 mk
    have HDL := hide hd_l
    have HDR := hide hd_r
    have HCELL := hide hcell
    have htp : p ≤ prio := htop
    have hdp : decide (p ≤ prio) = true := decide_eq_true htp
    obtain ⟨N, hN⟩ : ∃ N, L.length = N := ⟨_, rfl⟩
    have hN2 : La + Ll + Lr < N := by omega
    have hN3 : N ≤ c := by omega
    have HNN := hide hN
    rw [hN] at HIL HIR ⊢
    have hlo2 : lo = ((La : Nat) : Int) := by omega
    have hhi2 : hi = ((La + Ll + 1 + Lr : Nat) : Int) := by omega
    subst hlo2 hhi2
    clear ihl ihr hLL hp1 hp2 hp3 hp4 htop hlo hhi hlen e1 e2 e3 hpl hpr hll hne hcell hd_l hd_m hd_r hL htp hLa hLl hLr hN
    obtain ⟨M, hM⟩ : ∃ M : Nat, La + Ll = M := ⟨_, rfl⟩
    have hMi : (La : Int) + (Ll : Int) = (M : Int) := by omega
    rw [hMi] at HIL HIR
    rw [hM] at m4 m9 mk hN2 HDL HDR
    rw [hM]
    obtain ⟨H, hH⟩ : ∃ H : Nat, M + 1 + Lr = H := ⟨_, rfl⟩
    rw [hM, hH] at HIR
    rw [hH]
    rw [hH] at HDR
    have hMH : M < H ∧ H ≤ N ∧ La ≤ M := by omega
    obtain ⟨hMH1, hMH2, hMH3⟩ := hMH
    have hge : decide ((H : Int) ≤ (La : Int)) = false := decide_eq_false (by omega)
    have hge' : decide (H ≤ La) = false := decide_eq_false (by omega)
    have hst : UnderRel La M H w (.int .i64 (-1)) (.int .i64 La) w := ⟨La, rfl, Nat.le_refl _, by omega, .inl ⟨hMH3, rfl⟩, rfl⟩
    have HST := hide hst
    have hMZ : 0 ≤ (M : Int) := by omega
    clear hM hMi hH hst
    go_enter Try.func40, Try.ntmps40
    go_wp2
    go_loopw [11, 12] (fun root i wr => UnderRel La M H w root i wr) (fun _ i _ => H - (intOf i).toNat)
    case atStart => exact HST.out
    case round =>
      obtain ⟨j, rfl, hj1, hj2, hjr, rfl⟩ := hrel
      clear HST
      by_cases hlt : j < H
      · have hjN : j < L.length := by rw [HNN.out]; omega
        have hcj := HCELL.out j hjN
        rcases Nat.lt_trichotomy j M with hjm | hjm | hjm
        · have hdj := HDL.out j hjN hj1 (by omega)
          obtain ⟨_, _, ck⟩ := hcj
          obtain ⟨dj, hdje⟩ : ∃ dj, L[j].2.2 = dj := ⟨_, rfl⟩
          rw [hdje] at ck hdj
          rcases hjr with ⟨_, rfl⟩ | ⟨hq0, _⟩
          case inr => omega
          have q1 : decide (dj < deep) = false := decide_eq_false (by omega)
          have q2 : (dj == deep) = false := beq_eq_false_iff_ne.2 (by omega)
          have hrel2 : UnderRel La M H w (.int .i64 (-1)) (.int .i64 ((j : Int) + 1)) w := ⟨j + 1, by go_num, by omega, by omega, .inl ⟨by omega, rfl⟩, rfl⟩
          have HR2 := hide hrel2
          clear hdje hdj hrel2 HIL HIR m4 m9 mk
          go_wp2
          refine ⟨HR2.out, by first | (simp [intOf]; done) | (simp [intOf]; omega)⟩
        · subst hjm
          rcases hjr with ⟨_, rfl⟩ | ⟨hq0, _⟩
          case inr => omega
          have q1 : decide (deep < deep) = false := decide_eq_false (by omega)
          have hrel2 : UnderRel La j H w (.int .i64 j) (.int .i64 ((j : Int) + 1)) w := ⟨j + 1, by go_num, by omega, by omega, .inr ⟨by omega, rfl⟩, rfl⟩
          have HR2 := hide hrel2
          clear hcj hrel2 HIL HIR m4 m9
          go_wp2
          refine ⟨HR2.out, by first | (simp [intOf]; done) | (simp [intOf]; omega)⟩
        · have hdj := HDR.out j hjN hjm hlt
          obtain ⟨_, _, ck⟩ := hcj
          obtain ⟨dj, hdje⟩ : ∃ dj, L[j].2.2 = dj := ⟨_, rfl⟩
          rw [hdje] at ck hdj
          rcases hjr with ⟨hq0, _⟩ | ⟨_, rfl⟩
          case inl => omega
          have q1 : decide (dj < deep) = false := decide_eq_false (by omega)
          have q2 : (dj == deep) = false := beq_eq_false_iff_ne.2 (by omega)
          have hrel2 : UnderRel La M H w (.int .i64 M) (.int .i64 ((j : Int) + 1)) w := ⟨j + 1, by go_num, by omega, by omega, .inr ⟨by omega, rfl⟩, rfl⟩
          have HR2 := hide hrel2
          clear hdje hdj hrel2 HIL HIR m4 m9 mk
          go_wp2
          refine ⟨HR2.out, by first | (simp [intOf]; done) | (simp [intOf]; omega)⟩
      · obtain rfl : j = H := by omega
        rcases hjr with ⟨hq0, _⟩ | ⟨_, rfl⟩
        case inl => omega
        clear HCELL HDL HDR hlt hj2 m4 mk
        go_wp2_with fail
        refine HIL.out.mono ?_
        rintro e w2 ⟨rfl, rfl⟩
        go_wp2_with fail
        refine HIR.out.mono ?_
        rintro e w2 ⟨rfl, rfl⟩
        go_wp2
        go_ret
        exact ⟨rfl, rfl⟩
theorem pd_ps (t : T) : ∀ k, (t.pd k).map (·.1) = t.ps.map (·.2.1) := by
  induction t with
  | nil => intro k; rfl
  | node l n x p r ihl ihr => intro k; simp [T.pd, T.ps, ihl, ihr]
theorem adj_at {l : List Pc} (h : Adj l) (i : Nat) (hi : i + 1 < l.length) : 64 < l[i].2.1.size + l[i + 1].2.1.size := by
  induction l generalizing i with
  | nil => simp at hi
  | cons a r ih =>
    cases r with
    | nil => simp at hi
    | cons b q =>
      cases i with
      | zero => exact h.1
      | succ i => exact ih h.2 i (by simpa using hi)
theorem top_all {t : T} (h : ∀ q ∈ t.ps, PcOk q) : t.top 4294967295 := by
  cases t with
  | nil => trivial
  | node l n x p r =>
    have h1 := (h (n, x, p) (by simp [T.ps])).2.2
    simp only at h1
    show p ≤ 4294967295
    omega
theorem txP_take (l : List Pc) (k : Nat) (h : k < l.length) : txP (l.take (k + 1)) = txP (l.take k) ++ l[k].2.1.data.toList := by
  rw [List.take_succ_eq_append_getElem h, txP_app, txP_cons, txP_nil, List.append_nil]
theorem txP_le (l : List Pc) (k : Nat) : (txP (l.take k)).length ≤ (txP l).length := by
  conv => rhs; rw [← List.take_append_drop k l, txP_app, List.length_append]
  omega
def WholeRel (t : T) (w : World) (s i : Value) (wr : World) : Prop := ∃ (k : Nat) (sv : ByteArray), i = .int .i64 k ∧ s = .string sv ∧ Hid (sv.data.toList = txP (t.ps.take k)) ∧ k ≤ t.ps.length ∧ sv.size ≤ 1000000 ∧ w = wr
set_option maxHeartbeats 8000000 in
theorem whole_any {w : World} {r d : Nat} {t : T} (hc : RpC w r d t) (ht : t.At w) (hf : Fit t) (hlen : t.text.length ≤ 500000) (hps : t.ps.length ≤ 100000) :
    Calls Try.prog 21 #[.pointer (some ⟨r, 0, none⟩)] w fun e w' => e = .returned (.bool true) ∧ Below w.heap.size w w' := by
  have HP := hide (pieces_r hc ht hps)
  have HC := hide hc
  have HT := hide ht
  have HF := hide hf
  have HTL := hide hlen
  clear hc ht hf hlen
  go_enter Try.func21, Try.ntmps21
  go_wp2_with fail
  refine HP.out.mono ?_
  rintro e w1 ⟨v, rfl, hv, hb1⟩
  obtain ⟨N, hN⟩ : ∃ N, t.ps.length = N := ⟨_, rfl⟩
  rw [hN] at hv hps
  obtain ⟨aV, cV, rfl⟩ := own_slice hv
  have hpl : (t.pd 0).length = N := by rw [T.pd_len, hN]
  have hpd := own_pdat hv hpl.symm
  have HPD := hide hpd
  have HPL := hide hpl
  have HN := hide hN
  have hst : WholeRel t w1 (.string ⟨#[]⟩) (.int .i64 0) w1 := ⟨0, _, rfl, rfl, hide (by simp [txP]), Nat.zero_le _, by decide, rfl⟩
  have HST := hide hst
  clear hv hpl hpd hst HP hN
  go_wp2
  go_loopw [4, 5] (fun s i wr => WholeRel t w1 s i wr) (fun _ i _ => N - (intOf i).toNat)
  case atStart => exact HST.out
  case round =>
    obtain ⟨k, sv, rfl, rfl, HS, hk, hsv, rfl⟩ := hrel
    rw [HN.out] at hk
    by_cases hlt : k < N
    · have hkp : k < t.ps.length := by rw [HN.out]; exact hlt
      have hkd : k < (t.pd 0).length := by rw [HPL.out]; exact hlt
      have hne : t.pd 0 ≠ [] := by intro e; rw [e] at hkd; simp at hkd
      obtain ⟨g, rfl, hg, hc1, hc2, hcell⟩ := HPD.out.resolve_left hne
      rw [HPL.out] at hc1
      unfold maxLen at hc2
      have hx : ∀ i (h1 : i < (t.pd 0).length) (h2 : i < t.ps.length), (t.pd 0)[i].1 = t.ps[i].2.1 := fun i h1 h2 => by
        have h3 := pd_ps t 0
        have h4 : ((t.pd 0).map (·.1))[i]'(by simpa using h1) = (t.ps.map (·.2.1))[i]'(by simpa using h2) := by simp only [h3]
        simpa using h4
      have y0 := (hcell k hkd).1
      rw [hx k hkd hkp] at y0
      have hok := (HF.out.ok t.ps[k] (List.getElem_mem hkp)).1
      have htk := txP_take t.ps k hkp
      have hle := txP_le t.ps (k + 1)
      rw [htk, ← T.text_ps, List.length_append, ← HS.out, len_data, len_data] at hle
      have htl := HTL.out
      have hadj : ∀ p, k = p + 1 → ∃ y : ByteArray, w1.cell? ⟨g, p * 3, none⟩ = some (.string y) ∧ 64 < y.size + t.ps[k].2.1.size ∧ y.size ≤ 64 := fun p hp => by
        subst hp
        have h1 := (hcell p (by omega)).1
        rw [hx p (by omega) (by omega)] at h1
        exact ⟨_, h1, adj_at HF.out.adj p hkp, (HF.out.ok _ (List.getElem_mem (by omega))).1.2⟩
      have HADJ := hide hadj
      generalize t.ps[k].2.1 = x at *
      obtain ⟨hx1, hx2⟩ := hok
      have hsx : (sv ++ x).size = sv.size + x.size := ByteArray.size_append
      have hrel2 : WholeRel t w1 (.string (sv ++ x)) (.int .i64 ((k : Int) + 1)) w1 := ⟨k + 1, _, by go_num, rfl, hide (by rw [htk, ← HS.out]; simp), by rw [HN.out]; omega, by omega, rfl⟩
      have HR2 := hide hrel2
      have d1 : decide ((x.size : Int) < 1) = false := decide_eq_false (by omega)
      have d1' : decide (x.size < 1) = false := decide_eq_false (by omega)
      have d2 : decide ((64 : Int) < (x.size : Int)) = false := decide_eq_false (by omega)
      have d2' : decide (64 < x.size) = false := decide_eq_false (by omega)
      clear hcell hx htk hle htl hrel2 hsx hne hkp hkd hadj HS HST
      rcases Nat.eq_zero_or_pos k with h0 | h0
      · subst h0
        clear HADJ
        rw [Nat.zero_mul] at y0
        go_wp2
        refine ⟨HR2.out, by first | (simp [intOf]; done) | (simp [intOf]; omega)⟩
      · obtain ⟨p, rfl⟩ : ∃ p, k = p + 1 := ⟨k - 1, by omega⟩
        obtain ⟨y, y1, hy, hy2⟩ := HADJ.out p rfl
        have d3 : decide ((x.size : Int) + (y.size : Int) ≤ 64) = false := decide_eq_false (by omega)
        have hwp : IntKind.i64.wrap ((p : Int) + 1 - 1) = (p : Int) := by rw [IntWalk.i64_in _ (by omega)]; omega
        clear HADJ hy
        go_wp2
        refine ⟨HR2.out, by first | (simp [intOf]; done) | (simp [intOf]; omega)⟩
    · obtain rfl : k = N := by omega
      have hs1 : sv.data.toList = t.text := by rw [HS.out, List.take_of_length_le (by rw [HN.out]; omega), T.text_ps]
      have hs2 : sv = strOf t.text := by rw [← hs1, strOf_of]
      have hsz : t.text.length = sv.size := by rw [← hs1, len_data]
      have hc1 := rp_bl HC.out hb1
      have ht1 := HT.out.later t hb1
      have HX := hide (text_r hc1 ht1 (by have := HTL.out; omega))
      rw [← hs2] at HX
      have HL := hide (fun W (hb : Below w1.heap.size w1 W) => len_r (rp_bl hc1 hb) (ht1.later t hb))
      rw [hsz] at HL
      have HU := hide (fun W (hb : Below w1.heap.size w1 W) => under_any W aV cV (t.pd 0) (pdat_bl HPD.out hb) t [] [] 0 4294967295 0 (k : Int) (by simp) HF.out.hp (top_all HF.out.ok) (by simp) (by rw [HN.out]; simp) (by omega) (by rw [HN.out]; omega))
      rw [HPL.out] at HU
      clear hs1 hs2 hsz hc1 ht1 HS HST HPD
      go_wp2_with fail
      refine HX.out.mono ?_
      rintro e w2 ⟨rfl, hb2⟩
      go_wp2_with fail
      refine (HL.out _ hb2).mono ?_
      rintro e w3 ⟨rfl, rfl⟩
      go_wp2_with fail
      refine (HU.out _ hb2).mono ?_
      rintro e w3 ⟨rfl, rfl⟩
      have hbz := bl_trans hb1 hb2
      go_wp2
      go_ret
      exact ⟨rfl, hbz⟩
end Go.Proofs.Ytidfpnedbcaicaa
