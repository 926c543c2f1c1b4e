/- Contracts: a place among a pattern's characters (gimletref14's reader): the character there, a character taken. Condition: at most 1000 characters. Contracts: the reference's letters and digits; what a character behind a backslash stands for; a number (gimletref14). Condition: at most 1000 characters. Contract: an item of a class (gimletref14's item). Condition: the place is among the characters, not at a bracket that closes. What the reference's reading functions answer; contract: what stands behind a backslash (gimletref14's back). Condition: the place is among the characters, no edge behind the backslash. Plain facts: bounds read with three digits at most are bounds read with four. No condition. Contract: a quantifier of one sign, or none (gimletref14's times). Condition: the place is among the characters, at no brace. Cells of a block that may be written, passed on; contract: a quantifier in braces (gimletref14's times). Condition: the place is among the characters, at a brace. -/
import Derived.Test.YtmfaeonlmfejdaaPaY
namespace Go.Proofs.Ytmfaeonlmfejdaa
section
open SetM
open Go.ChangeShapes Go.WideShapes Go.ChangeAt Go.RowKit
attribute [local go_sem ↓] Go.wp_at_zero Go.wp_at_succ
set_option maxRecDepth 100000
set_option linter.unusedVariables false
theorem split_cons {l : List UInt8} (h : l ≠ []) : splitL l = hdC l :: splitL (tlC l) := splitL_eq l (List.length_pos_iff.2 h)
theorem split_nil : splitL [] = [] := rfl
theorem bs_self (b : ByteArray) : bsC b.data.toList = b := by
  cases b with
  | mk d => simp [bsC]
/-- At this place among the characters these bytes are still to come. -/
structure Rp (w : World) (b : Nat) (A : Option Addr) (c : Nat) (zs : List ByteArray) (l : List UInt8) : Prop where
  row : w.cell? ⟨b, 0, none⟩ = some (.slice A zs.length c)
  pos : w.cell? ⟨b, 1, none⟩ = some (.int .i64 ((zs.length - (splitL l).length : Nat) : Int))
  fz : w.frozen? ⟨b, 1, none⟩ = false
  cs : ∀ k (h : k < zs.length), ∃ g, A = some ⟨g, 0, none⟩ ∧ g ≠ b ∧ w.cell? ⟨g, k, none⟩ = some (.string zs[k])
  suf : splitL l <:+ zs.map (fun z => z.data.toList)
  sz : zs.length ≤ 1000
  bz : ∀ z ∈ zs, z.size ≤ 256
/-- Of what was there only the place has changed: these bytes are still to come now. -/
def Rv (w w' : World) (b : Nat) (zs : List ByteArray) (l : List UInt8) : Prop := Mvd w w' b 0 (zs.length - (splitL l).length) ∧ splitL l <:+ zs.map (fun z => z.data.toList)
theorem Rp.lt {w : World} {b : Nat} {A : Option Addr} {c : Nat} {zs : List ByteArray} {l : List UInt8} (h : Rp w b A c zs l) : b < w.heap.size := World.block_lt_of_cell? _ _ h.pos
theorem Rp.le {w : World} {b : Nat} {A : Option Addr} {c : Nat} {zs : List ByteArray} {l : List UInt8} (h : Rp w b A c zs l) : (splitL l).length ≤ zs.length := by have := h.suf.length_le; rwa [List.length_map] at this
theorem Rv.pl {w w' : World} {b : Nat} {A : Option Addr} {c : Nat} {zs : List ByteArray} {l l' : List UInt8} (h : Rv w w' b zs l') (h0 : Rp w b A c zs l) : Rp w' b A c zs l' := by
  refine ⟨(h.1.cells 0 (by omega)).trans h0.row, h.1.pos, (h.1.froz 1).trans h0.fz, fun k hk => ?_, h.2, h0.sz, h0.bz⟩
  obtain ⟨g, g1, g2, g3⟩ := h0.cs k hk
  have g4 := World.block_lt_of_cell? _ _ g3
  refine ⟨g, g1, g2, ?_⟩
  rw [← g3]
  simp only [World.cell?, h.1.grown.block g g4 (fun e => g2 (by injection e))]
theorem Rv.trans {w w1 w2 : World} {b : Nat} {zs : List ByteArray} {l l' : List UInt8} (h : Rv w w1 b zs l) (g : Rv w1 w2 b zs l') : Rv w w2 b zs l' := ⟨h.1.trans g.1, g.2⟩
theorem Rv.bl {w w1 w2 : World} {b : Nat} {zs : List ByteArray} {l : List UInt8} (h : Rv w w1 b zs l) (hb : Below w1.heap.size w1 w2) : Rv w w2 b zs l := ⟨h.1.bl hb, h.2⟩
theorem Rp.self {w w' : World} {b : Nat} {A : Option Addr} {c : Nat} {zs : List ByteArray} {l : List UInt8} (h : Rp w b A c zs l) (hb : Below w.heap.size w w') : Rv w w' b zs l := ⟨mvd_bl hb h.pos, h.suf⟩
theorem Rp.bl {w w' : World} {b : Nat} {A : Option Addr} {c : Nat} {zs : List ByteArray} {l : List UInt8} (h : Rp w b A c zs l) (hb : Below w.heap.size w w') : Rp w' b A c zs l := (h.self hb).pl h
theorem tl_split {x : List (List UInt8)} {l : List UInt8} (h : splitL l <:+ x) : splitL (tlC l) <:+ x := by
  by_cases h0 : l = []
  · subst h0; exact h
  · rw [split_cons h0] at h; exact (List.suffix_cons _ _).trans h
/-- The character there lies in the row. -/
theorem Rp.here {w : World} {b : Nat} {A : Option Addr} {c : Nat} {zs : List ByteArray} {l : List UInt8} (h : Rp w b A c zs l) (h0 : l ≠ []) :
    ∃ k g, zs.length - (splitL l).length = k ∧ k < zs.length ∧ zs.length - (splitL (tlC l)).length = k + 1 ∧ A = some ⟨g, 0, none⟩ ∧ g ≠ b ∧ w.cell? ⟨g, k, none⟩ = some (.string (bsC (hdC l))) := by
  have hle := h.le
  have hs := h.suf
  rw [split_cons h0] at hle hs ⊢
  rw [List.length_cons] at hle ⊢
  obtain ⟨pre, hp⟩ := hs
  have hpl : pre.length + ((splitL (tlC l)).length + 1) = zs.length := by
    have := congrArg List.length hp
    rw [List.length_append, List.length_cons, List.length_map] at this; exact this
  have hk : zs.length - ((splitL (tlC l)).length + 1) < zs.length := by omega
  obtain ⟨g, g1, g2, g3⟩ := h.cs _ hk
  refine ⟨_, g, rfl, hk, by omega, g1, g2, ?_⟩
  rw [g3]
  have e1 : (zs.map (fun z => z.data.toList))[zs.length - ((splitL (tlC l)).length + 1)]? = some (hdC l) := by
    rw [← hp, List.getElem?_append_right (by omega), show zs.length - ((splitL (tlC l)).length + 1) - pre.length = 0 by omega]; rfl
  rw [List.getElem?_map, List.getElem?_eq_getElem hk] at e1
  have e2 : zs[zs.length - ((splitL (tlC l)).length + 1)].data.toList = hdC l := by simpa using e1
  rw [← e2, bs_self]
theorem Rp.hd_le {w : World} {b : Nat} {A : Option Addr} {c : Nat} {zs : List ByteArray} {l : List UInt8} (h : Rp w b A c zs l) : (hdC l).length ≤ 256 := by
  by_cases h0 : l = []
  · subst h0; decide
  · have hs := h.suf
    rw [split_cons h0] at hs
    obtain ⟨z, hz, he⟩ := List.mem_map.1 (hs.subset (List.mem_cons_self))
    rw [← he, show z.data.toList.length = z.size from Array.length_toList]
    exact h.bz z hz
theorem rr_see {w : World} {b : Nat} {A : Option Addr} {c : Nat} {zs : List ByteArray} {l : List UInt8} (h : Rp w b A c zs l) (x : ByteArray) (hx : bsC (hdC l) = x) : Calls Try.prog 56 #[.pointer (some ⟨b, 0, none⟩)] w fun e w' => e = .returned (.string x) ∧ Below w.heap.size w w' := by
  have h1 := h.row
  have hsz := h.sz
  by_cases h0 : l = []
  · subst h0
    have h2 := h.pos
    rw [split_nil, List.length_nil, Nat.sub_zero] at h2
    have hx' : x = ⟨#[]⟩ := by rw [← hx]; rfl
    subst hx'
    clear hx h
    go_enter Try.func56, Try.ntmps56
    go_wp2
    go_quiet (fail)
    go_wp2
    go_ret
    exact ⟨rfl, bl_drewN (bl_refl w) _⟩
  · obtain ⟨k, g, hk, hkn, hk1, rfl, hgb, hc⟩ := h.here h0
    have h2 := h.pos
    rw [hk] at h2
    rw [hx] at hc
    obtain ⟨N, hN⟩ : ∃ N, zs.length = N := ⟨_, rfl⟩
    rw [hN] at h1 hkn hsz
    have d1 : decide ((N : Int) ≤ (k : Int)) = false := decide_eq_false (by omega)
    have q1 : (0 : Int) ≤ (k : Int) := by omega
    have q2 : (k : Int) < (N : Int) := by omega
    clear hx h hk hk1 hgb h0 hN
    go_enter Try.func56, Try.ntmps56
    go_wp2
    go_quiet (fail)
    go_wp2
    go_quiet (fail)
    go_wp2
    go_ret
    exact ⟨rfl, bl_drewN (bl_drewN (bl_refl w) _) _⟩
theorem rr_take {w : World} {b : Nat} {A : Option Addr} {c : Nat} {zs : List ByteArray} {l : List UInt8} (h : Rp w b A c zs l) (x : ByteArray) (hne : x.data.toList ≠ []) (r : Bool) (hr : (hdC l == x.data.toList) = r) : Calls Try.prog 58 #[.pointer (some ⟨b, 0, none⟩), .string x] w fun e w' => e = .returned (.bool r) ∧ Rv w w' b zs (if r = true then tlC l else l) := by
  have HS := hide h
  have h1 := h.row
  have hsz := h.sz
  by_cases h0 : l = []
  · subst h0
    have h2 := h.pos
    rw [split_nil, List.length_nil, Nat.sub_zero] at h2
    have hr' : r = false := by
      rw [← hr, Bool.eq_false_iff]; intro h3; exact hne (beq_iff_eq.1 h3).symm
    subst hr'
    obtain ⟨N, hN⟩ : ∃ N, zs.length = N := ⟨_, rfl⟩
    rw [hN] at h1 h2 hsz
    have d1 : decide ((N : Int) ≤ (N : Int)) = true := decide_eq_true (by omega)
    clear hr hne h hN
    go_enter Try.func58, Try.ntmps58
    go_wp2
    go_quiet (fail)
    go_wp2
    go_ret
    exact ⟨rfl, HS.out.self (bl_drewN (bl_refl w) _)⟩
  · obtain ⟨k, g, hk, hkn, hk1, rfl, hgb, hc⟩ := h.here h0
    have h2 := h.pos
    rw [hk] at h2
    obtain ⟨y, hy⟩ : ∃ y, bsC (hdC l) = y := ⟨_, rfl⟩
    rw [hy] at hc
    have hyd : y.data.toList = hdC l := by rw [← hy, bsC_data]
    have heq : (y.toList == x.toList) = r := by rw [Go.ByteArray.toList_eq, Go.ByteArray.toList_eq, hyd, hr]
    have HK1 := hide hk1
    have HK2 := hide hk
    obtain ⟨N, hN⟩ : ∃ N, zs.length = N := ⟨_, rfl⟩
    rw [hN] at h1 hkn hsz
    have hfz := h.fz
    have d1 : decide ((N : Int) ≤ (k : Int)) = false := decide_eq_false (by omega)
    have q1 : (0 : Int) ≤ (k : Int) := by omega
    have q2 : (k : Int) < (N : Int) := by omega
    have q3 : IntKind.i64.wrap ((k : Int) + 1) = (k : Int) + 1 := by rw [IntKind.wrap_i64]; omega
    have HFR := hide (show ∀ n, Rv w ((w.drewN n).setCell ⟨b, 0 + 1, none⟩ (.int .i64 ((k + 1 : Nat) : Int))) b zs (tlC l) from fun n => ⟨by rw [hk1]; exact (mvd_bl (bl_drewN (bl_refl w) n) h2).set (k + 1), tl_split h.suf⟩)
    clear hy hyd hr hne h hk hk1 hgb h0 hN
    cases r
    · go_enter Try.func58, Try.ntmps58
      go_wp2
      go_quiet (fail)
      go_wp2
      go_ret
      exact ⟨rfl, HS.out.self (bl_drewN (bl_refl w) _)⟩
    · go_enter Try.func58, Try.ntmps58
      go_wp2
      go_quiet (fail)
      go_wp2
      go_ret
      exact ⟨rfl, HFR.out _⟩
end
section
open SetM
open Go.ChangeShapes Go.WideShapes Go.ChangeAt Go.RowKit
attribute [local go_sem ↓] Go.wp_at_zero Go.wp_at_succ
set_option maxRecDepth 100000
set_option linter.unusedVariables false
theorem rlet_m (n : Int) (h0 : 0 ≤ n) (h1 : n < 256) (w : World) : Calls Try.prog 75 #[.int .u8 n] w fun e w' => e = .returned (.bool (letZ n)) ∧ w = w' := by
  unfold letZ uppZ lowZ
  rcases hb1 : decide (65 ≤ n) with _ | _ <;> rcases hb2 : decide (n ≤ 90) with _ | _ <;> rcases hb3 : decide (97 ≤ n) with _ | _ <;> rcases hb4 : decide (n ≤ 122) with _ | _
  all_goals
    go_enter Try.func75, Try.ntmps75
    go_wp2
    go_ret
    exact ⟨rfl, rfl⟩
theorem rdig_m (n : Int) (h0 : 0 ≤ n) (h1 : n < 256) (w : World) : Calls Try.prog 74 #[.int .u8 n] w fun e w' => e = .returned (.bool (digZ n)) ∧ w = w' := by
  unfold digZ
  rcases hb1 : decide (48 ≤ n) with _ | _ <;> rcases hb2 : decide (n ≤ 57) with _ | _
  all_goals
    go_enter Try.func74, Try.ntmps74
    go_wp2
    go_ret
    exact ⟨rfl, rfl⟩
set_option maxHeartbeats 4000000 in
theorem rescape_any (c : ByteArray) (hs : c.size ≤ 1000000) (z : Option ByteArray) (hz : escP c = z) (w : World) : Calls Try.prog 73 #[.string c] w (EsPost w z) := by
  unfold escP at hz
  unfold EsPost
  rcases k5 : (c.data.toList == []) with _ | _
  rotate_left
  · have hc9 : c.data.toList = [] := by simpa using k5
    have hz9 : z = none := by rw [← hz, hc9]; rfl
    subst hz9
    obtain ⟨y5, z5⟩ := lit_eq c #[] true k5
    clear k5 hz hc9
    go_enter Try.func73, Try.ntmps73
    go_wp2
    go_ret2
    exact ⟨rfl, rfl⟩
  obtain ⟨y5, z5⟩ := lit_eq c #[] false k5
  rcases k0 : (c.data.toList == [110]) with _ | _
  rotate_left
  · rw [k0, if_pos rfl] at hz
    subst hz
    obtain ⟨y0, z0⟩ := lit_eq c #[110] true k0
    clear k5 k0
    go_enter Try.func73, Try.ntmps73
    go_wp2
    go_ret2
    exact ⟨rfl, rfl⟩
  rw [k0, if_neg (by decide)] at hz
  obtain ⟨y0, z0⟩ := lit_eq c #[110] false k0
  rcases k1 : (c.data.toList == [114]) with _ | _
  rotate_left
  · rw [k1, if_pos rfl] at hz
    subst hz
    obtain ⟨y1, z1⟩ := lit_eq c #[114] true k1
    clear k5 k0 k1
    go_enter Try.func73, Try.ntmps73
    go_wp2
    go_ret2
    exact ⟨rfl, rfl⟩
  rw [k1, if_neg (by decide)] at hz
  obtain ⟨y1, z1⟩ := lit_eq c #[114] false k1
  rcases k2 : (c.data.toList == [116]) with _ | _
  rotate_left
  · rw [k2, if_pos rfl] at hz
    subst hz
    obtain ⟨y2, z2⟩ := lit_eq c #[116] true k2
    clear k5 k0 k1 k2
    go_enter Try.func73, Try.ntmps73
    go_wp2
    go_ret2
    exact ⟨rfl, rfl⟩
  rw [k2, if_neg (by decide)] at hz
  obtain ⟨y2, z2⟩ := lit_eq c #[116] false k2
  rcases k3 : (c.data.toList == [102]) with _ | _
  rotate_left
  · rw [k3, if_pos rfl] at hz
    subst hz
    obtain ⟨y3, z3⟩ := lit_eq c #[102] true k3
    clear k5 k0 k1 k2 k3
    go_enter Try.func73, Try.ntmps73
    go_wp2
    go_ret2
    exact ⟨rfl, rfl⟩
  rw [k3, if_neg (by decide)] at hz
  obtain ⟨y3, z3⟩ := lit_eq c #[102] false k3
  rcases k4 : (c.data.toList == [118]) with _ | _
  rotate_left
  · rw [k4, if_pos rfl] at hz
    subst hz
    obtain ⟨y4, z4⟩ := lit_eq c #[118] true k4
    clear k5 k0 k1 k2 k3 k4
    go_enter Try.func73, Try.ntmps73
    go_wp2
    go_ret2
    exact ⟨rfl, rfl⟩
  rw [k4, if_neg (by decide)] at hz
  obtain ⟨y4, z4⟩ := lit_eq c #[118] false k4
  rw [k5, if_neg (by decide)] at hz
  have hc0 : 0 < c.size := by
    rw [← show c.data.toList.length = c.size from Array.length_toList]
    rcases h : c.data.toList with _ | ⟨a, r⟩
    · rw [h] at k5; simp at k5
    · simp
  by_cases h1 : c.size = 1
  · obtain ⟨y, hy⟩ := List.length_eq_one_iff.1 ((show c.data.toList.length = c.size from Array.length_toList).trans h1)
    have hx0 : (c[0]'hc0).toNat = y.toNat := by
      have : c.data.toList[0]'(by rw [hy]; simp) = y := by simp [hy]
      rw [← this]; rfl
    have hno : escNo c = (letZ y.toNat || digZ y.toNat) := by unfold escNo; rw [hy]
    have hy256 := y.toNat_lt
    rw [hno] at hz
    obtain ⟨cn, hcn⟩ : ∃ cn, y.toNat = cn := ⟨_, rfl⟩
    rw [hcn] at hx0 hy256 hz
    have HL := hide (fun W => rlet_m (cn : Int) (by omega) (by omega) W)
    have HD := hide (fun W => rdig_m (cn : Int) (by omega) (by omega) W)
    have hxi : ((c[0]'hc0).toNat : Int) = (cn : Int) := by rw [hx0]
    have gs : ((c.size : Int) == 1) = true := by rw [h1]; rfl
    have gs' : (c.size == 1) = true := by rw [h1]; rfl
    have i0 : (0 : Int) < (c.size : Int) := by omega
    generalize letZ (cn : Int) = u at *
    generalize digZ (cn : Int) = v at *
    clear hno hcn hy k0 k1 k2 k3 k4 k5 hx0 h1
    cases u <;> cases v
    all_goals
      first | rw [if_pos (by decide)] at hz | rw [if_neg (by decide)] at hz
      subst hz
      go_enter Try.func73, Try.ntmps73
      go_wp2_with (first | (go_at_call 75; refine (HL.out _).mono ?_; rintro e w2 ⟨rfl, rfl⟩) | (go_at_call 74; refine (HD.out _).mono ?_; rintro e w2 ⟨rfl, rfl⟩))
      go_ret2
      exact ⟨rfl, rfl⟩
  · have hno : escNo c = false := by
      unfold escNo
      split
      · rename_i y hy
        exfalso; apply h1
        rw [← show c.data.toList.length = c.size from Array.length_toList, hy]; rfl
      · rfl
    rw [hno, if_neg (by decide)] at hz
    subst hz
    have gs : ((c.size : Int) == 1) = false := by rw [Bool.eq_false_iff]; intro h; have := beq_iff_eq.1 h; omega
    have gs' : (c.size == 1) = false := by rw [Bool.eq_false_iff]; intro h; have := beq_iff_eq.1 h; omega
    clear hno k0 k1 k2 k3 k4 k5 h1
    go_enter Try.func73, Try.ntmps73
    go_wp2
    go_ret2
    exact ⟨rfl, rfl⟩

theorem rr_see_at {w W : World} {b : Nat} {A : Option Addr} {c : Nat} {zs : List ByteArray} {l : List UInt8} (h : Rp w b A c zs l) (hb : Below w.heap.size w W) (x : ByteArray) (hx : bsC (hdC l) = x) (k : Nat) (hk : zs.length - (splitL l).length = k) :
    Calls Try.prog 56 #[.pointer (some ⟨b, 0, none⟩)] W fun e w' => e = .returned (.string x) ∧ Below w.heap.size w w' ∧ w'.cell? ⟨b, 1, none⟩ = some (.int .i64 (k : Int)) ∧ w'.frozen? ⟨b, 1, none⟩ = false := by
  refine (rr_see (h.bl hb) x hx).mono ?_
  rintro e w' ⟨rfl, hb'⟩
  have hp := (h.bl hb).bl hb'
  have h1 := hp.pos
  rw [hk] at h1
  exact ⟨rfl, bl_trans hb hb', h1, hp.fz⟩
theorem rr_step {w W : World} {b : Nat} {A : Option Addr} {c : Nat} {zs : List ByteArray} {l : List UInt8} (h : Rp w b A c zs l) (h0 : l ≠ []) (hb : Below w.heap.size w W) (k : Nat) (hk : zs.length - (splitL l).length = k) :
    Rv w (W.setCell ⟨b, 1, none⟩ (.int .i64 ((k : Int) + 1))) b zs (tlC l) := by
  obtain ⟨k', g, e1, _, e2, _⟩ := h.here h0
  rw [hk] at e1
  subst e1
  refine ⟨?_, tl_split h.suf⟩
  rw [e2]
  exact (mvd_bl hb h.pos).set (k + 1)
def RnPost (w : World) (b : Nat) (zs : List ByteArray) (z : Nat × Nat × List UInt8) (e : Ending) (w' : World) : Prop :=
  e = .returned (.tuple #[.int .i64 z.1, .bool (numOk z.1 z.2.1)]) ∧ Rv w w' b zs z.2.2
set_option maxHeartbeats 4000000 in
theorem rnumber_any {w : World} {b : Nat} {A : Option Addr} {c : Nat} {zs : List ByteArray} {l : List UInt8} (h : Rp w b A c zs l) (z : Nat × Nat × List UInt8) (hz : numR 3 0 0 l = z) :
    Calls Try.prog 68 #[.pointer (some ⟨b, 0, none⟩)] w (RnPost w b zs z) := by
  have HS := hide h
  have HZ := hide hz
  clear h hz
  unfold RnPost
  go_enter Try.func68, Try.ntmps68
  go_wp2
  go_loopw [4, 5] (fun n d wr => ∃ (N K : Nat) (l1 : List UInt8), n = .int .i64 N ∧ d = .int .i64 K ∧ K ≤ 3 ∧ N < 10 ^ K ∧ Hid (numR (3 - K) N K l1 = z) ∧ Hid (Rv w wr b zs l1)) (fun _ d _ => 4 - (intOf d).toNat)
  case atStart => exact ⟨0, 0, l, rfl, rfl, by omega, by simp, HZ, hide (HS.out.self (bl_refl w))⟩
  case round =>
    obtain ⟨N, K, l1, rfl, rfl, hK, hN, HN, HM⟩ := hrel
    have hpl := HM.out.pl HS.out
    obtain ⟨x, hx⟩ : ∃ x, bsC (hdC l1) = x := ⟨_, rfl⟩
    have hxd : x.data.toList = hdC l1 := by rw [← hx, bsC_data]
    have hxz : x.size = (hdC l1).length := by rw [← hxd]; exact (Array.length_toList).symm
    obtain ⟨k, hk⟩ : ∃ k, zs.length - (splitL l1).length = k := ⟨_, rfl⟩
    have HSEE := hide (fun W (hb : Below wr.heap.size wr W) => rr_see_at hpl hb x hx k hk)
    have HPL := hide hpl
    have hk1000 : k ≤ 1000 := by have := hpl.sz; omega
    have HKK := hide hk
    have hp4 : (10 : Nat) ^ K ≤ 10 ^ 3 := Nat.pow_le_pow_right (by decide) hK
    have hN4 : N < 1000 := by omega
    have HBR := hide (bl_refl wr)
    clear hpl hp4 hx hk
    have HEND := hide (fun (hz : (N, K, l1) = z) W (hb : Below wr.heap.size wr W) => (show ∀ b1 b3 : Bool, decide ((0 : Int) < (K : Int)) = b1 → decide ((N : Int) ≤ 255) = b3 → Ending.returned (.tuple #[.int .i64 (N : Int), .bool (b1 && b3)]) = Ending.returned (.tuple #[.int .i64 z.1, .bool (numOk z.1 z.2.1)]) ∧ Rv w W b zs z.2.2 from by
      rintro b1 b3 h1 h3
      subst hz
      refine ⟨?_, HM.out.bl hb⟩
      have e1 : decide (1 ≤ K) = b1 := by rw [← h1]; apply decide_eq_decide.2; omega
      have e2 : decide (K ≤ 3) = true := decide_eq_true hK
      have e3 : decide (N ≤ 255) = b3 := by rw [← h3]; apply decide_eq_decide.2; omega
      simp only [numOk, e1, e2, e3, Bool.true_and]))
    by_cases hk3 : K < 3
    · have g3 : decide ((K : Int) < 3) = true := decide_eq_true (by omega)
      have g3' : decide (K < 3) = true := decide_eq_true hk3
      by_cases hl1 : (hdC l1).length = 1
      · have hne : l1 ≠ [] := by rintro rfl; simp [hdC] at hl1
        have HST := hide (fun W (hb : Below wr.heap.size wr W) => HM.out.trans (rr_step HPL.out hne hb k HKK.out))
        obtain ⟨y, hy⟩ := List.length_eq_one_iff.1 hl1
        have hx1 : x.size = 1 := by omega
        have hp0 : 0 < x.size := by omega
        have hx0 : (x[0]'hp0).toNat = y.toNat := by
          have : x.data.toList[0]'(by rw [hxd, hl1]; decide) = y := by simp [hxd, hy]
          rw [← this]; rfl
        have HY := hide hy
        obtain ⟨dg, hdg⟩ : ∃ dg, digZ (y.toNat : Int) = dg := ⟨_, rfl⟩
        have hy256 := y.toNat_lt
        have HD := hide (fun W => rdig_m (y.toNat : Int) (by omega) (by omega) W)
        rw [hdg] at HD
        have gs : ((x.size : Int) == 1) = true := by rw [hx1]; rfl
        have gs' : (x.size == 1) = true := by rw [hx1]; rfl
        have i0 : (0 : Int) < (x.size : Int) := by omega
        have HDG := hide hdg
        obtain ⟨cn, hcn⟩ : ∃ cn, y.toNat = cn := ⟨_, rfl⟩
        have hdcn : dg = true → 48 ≤ cn ∧ cn ≤ 57 := by
          intro h1; rw [h1] at hdg; unfold digZ at hdg; simp at hdg; omega
        rw [hcn] at hx0 HD hy256
        have hxi : ((x[0]'hp0).toNat : Int) = (cn : Int) := by rw [hx0]
        have HCN := hide hcn
        clear hcn hdg hy hxz hxd hx0 hl1 hx1 hne
        cases dg
        · have hz2 := HN.out
          rw [numR_no HY.out HDG.out] at hz2
          have HE2 := HEND.out hz2
          rcases hb1 : decide ((0 : Int) < (K : Int)) with _ | _ <;> rcases hb3 : decide ((N : Int) ≤ 255) with _ | _
          all_goals
            have HE := hide (fun W hb => HE2 W hb _ _ hb1 hb3)
            clear HE2 HEND hdcn hz2 hN hN4
            have b1' : decide (0 < K) = decide ((0 : Int) < (K : Int)) := by apply decide_eq_decide.2; omega
            have b3' : decide (N ≤ 255) = decide ((N : Int) ≤ 255) := by apply decide_eq_decide.2; omega
            rw [hb1] at b1'
            rw [hb3] at b3'
            go_wp2_with (first | (go_at_call 74; refine (HD.out _).mono ?_; rintro e w2 ⟨rfl, rfl⟩) | (go_at_call 56; refine (HSEE.out _ (by first | exact HBR.out | assumption)).mono ?_; rintro e w3 ⟨rfl, hb3', c3, f3⟩))
            go_ret2
            exact HE.out _ (by assumption)
        · obtain ⟨hc1, hc2⟩ := hdcn rfl
          have hz2 := HN.out
          rw [show 3 - K = (3 - (K + 1)) + 1 by omega, numR_one HY.out HDG.out, HCN.out] at hz2
          have HZ2 := hide hz2
          have HN10 := hide (show N * 10 + (cn - 48) < 10 ^ (K + 1) by rw [Nat.pow_succ]; omega)
          have e1 : IntKind.i64.wrap ((N : Int) * 10) = (N : Int) * 10 := by rw [IntKind.wrap_i64]; omega
          have e2 : IntKind.u8.wrap ((cn : Int) - 48) = (cn : Int) - 48 := by rw [IntKind.wrap_u8]; omega
          have e3 : IntKind.i64.wrap ((cn : Int) - 48) = (cn : Int) - 48 := by rw [IntKind.wrap_i64]; omega
          have e4 : IntKind.i64.wrap ((N : Int) * 10 + ((cn : Int) - 48)) = (N : Int) * 10 + ((cn : Int) - 48) := by rw [IntKind.wrap_i64]; omega
          have e5 : IntKind.i64.wrap ((K : Int) + 1) = (K : Int) + 1 := by rw [IntKind.wrap_i64]; omega
          have e6 : ((N * 10 + (cn - 48) : Nat) : Int) = (N : Int) * 10 + ((cn : Int) - 48) := by omega
          have e7 : IntKind.i64.wrap ((k : Int) + 1) = (k : Int) + 1 := by rw [IntKind.wrap_i64]; omega
          clear hz2 HEND hdcn hN hN4
          go_wp2_with (first | (go_at_call 74; refine (HD.out _).mono ?_; rintro e w2 ⟨rfl, rfl⟩) | (go_at_call 56; refine (HSEE.out _ (by first | exact HBR.out | assumption)).mono ?_; rintro e w3 ⟨rfl, hb3', c3, f3⟩))
          refine ⟨?_, by first | (simp [intOf]; done) | (simp [intOf]; omega)⟩
          first
            | exact ⟨N * 10 + (cn - 48), K + 1, tlC l1, by rw [e6], by go_num, by omega, HN10.out, HZ2, hide (HST.out _ (by assumption))⟩
            | ((repeat apply Exists.intro); exact ⟨⟨N * 10 + (cn - 48), K + 1, tlC l1, by rw [e6], by go_num, by omega, HN10.out, HZ2, hide (HST.out _ (by assumption))⟩, rfl⟩)
      · have hz2 := HN.out
        rw [numR_ne hl1] at hz2
        have gs : ((x.size : Int) == 1) = false := by rw [Bool.eq_false_iff]; intro h1; apply hl1; rw [← hxz]; have := beq_iff_eq.1 h1; omega
        have gs' : (x.size == 1) = false := by rw [Bool.eq_false_iff]; intro h1; apply hl1; rw [← hxz]; have := beq_iff_eq.1 h1; omega
        have HE2 := HEND.out hz2
        clear hl1 hxz hxd
        rcases hb1 : decide ((0 : Int) < (K : Int)) with _ | _ <;> rcases hb3 : decide ((N : Int) ≤ 255) with _ | _
        all_goals
          have HE := hide (fun W hb => HE2 W hb _ _ hb1 hb3)
          clear HE2 HEND hz2 hN hN4
          have b1' : decide (0 < K) = decide ((0 : Int) < (K : Int)) := by apply decide_eq_decide.2; omega
          have b3' : decide (N ≤ 255) = decide ((N : Int) ≤ 255) := by apply decide_eq_decide.2; omega
          rw [hb1] at b1'
          rw [hb3] at b3'
          go_wp2_with (go_at_call 56; refine (HSEE.out _ (by first | exact HBR.out | assumption)).mono ?_; rintro e w3 ⟨rfl, hb3', c3, f3⟩)
          go_ret2
          exact HE.out _ (by assumption)
    · have hz2 := HN.out
      rw [show 3 - K = 0 by omega, numR] at hz2
      have HE2 := HEND.out hz2
      have g3 : decide ((K : Int) < 3) = false := decide_eq_false (by omega)
      have g3' : decide (K < 3) = false := decide_eq_false hk3
      rcases hb1 : decide ((0 : Int) < (K : Int)) with _ | _ <;> rcases hb3 : decide ((N : Int) ≤ 255) with _ | _
      all_goals
        have HE := hide (fun W hb => HE2 W hb _ _ hb1 hb3)
        clear HE2 HEND hz2 hN hN4 hk3
        have b1' : decide (0 < K) = decide ((0 : Int) < (K : Int)) := by apply decide_eq_decide.2; omega
        have b3' : decide (N ≤ 255) = decide ((N : Int) ≤ 255) := by apply decide_eq_decide.2; omega
        rw [hb1] at b1'
        rw [hb3] at b3'
        go_wp2
        go_ret2
        exact HE.out _ HBR.out
end
section
open SetM
open Go.ChangeShapes Go.WideShapes Go.ChangeAt Go.RowKit
attribute [local go_sem ↓] Go.wp_at_zero Go.wp_at_succ
attribute [local go_sem] later_cell later_frozen
set_option maxRecDepth 100000
set_option linter.unusedVariables false
theorem itemP_y {l r : List UInt8} {y : UInt8} (h : hdC l = [92]) (hr : tlC l = r) (hy : hdC r = [y]) : itemP l = if namB (y.toNat : Int) = true then some (namR (y.toNat : Int), ⟨#[]⟩, tlC r) else (escP (bsC [y])).map (fun d => ([], d, tlC r)) := by
  unfold itemP
  rw [h, if_pos (by decide), hr, hy]
  by_cases h1 : y = 100
  · subst h1; rfl
  by_cases h2 : y = 119
  · subst h2; rfl
  by_cases h3 : y = 115
  · subst h3; rfl
  have n1 : y.toNat ≠ 100 := fun e => h1 (UInt8.toNat_inj.1 e)
  have n2 : y.toNat ≠ 119 := fun e => h2 (UInt8.toNat_inj.1 e)
  have n3 : y.toNat ≠ 115 := fun e => h3 (UInt8.toNat_inj.1 e)
  have hb : namB (y.toNat : Int) = false := by unfold namB; rw [decide_eq_false_iff_not]; omega
  rw [hb, if_neg (by simpa using h1), if_neg (by simpa using h2), if_neg (by simpa using h3), if_neg (by decide)]
theorem itemP_e {l r : List UInt8} (h : hdC l = [92]) (hr : tlC l = r) (hL : (hdC r).length ≠ 1) : itemP l = (escP (bsC (hdC r))).map (fun d => ([], d, tlC r)) := by
  unfold itemP
  rw [h, if_pos (by decide), hr]
  rw [if_neg (fun e => hL (by rw [beq_iff_eq.1 e]; rfl)), if_neg (fun e => hL (by rw [beq_iff_eq.1 e]; rfl)), if_neg (fun e => hL (by rw [beq_iff_eq.1 e]; rfl))]
theorem rwat_set {N : Nat} {W : World} {v : Value} {rows : List Rw} {b o : Nat} {u : Value} (h : RwAt W v rows) (hf : FrV N v) (hb : b < N) : RwAt (W.setCell ⟨b, o, none⟩ u) v rows := by
  refine rwat_kept h hf (fun p x hp hc => ?_)
  rw [World.cell?_setCell_other _ _ _ _ (fun e => by subst e; exact absurd hp (by simp; omega))]; exact hc
def RitPost (w : World) (b : Nat) (zs : List ByteArray) (o : Option (List Rw × ByteArray × List UInt8)) (e : Ending) (w' : World) : Prop :=
  ∃ (v : Value) (c : ByteArray), e = .returned (.tuple #[v, .string c, .bool o.isSome]) ∧ (∃ k, Mvd w w' b 0 k) ∧ FrV w.heap.size v ∧ ∀ x, o = some x → Rv w w' b zs x.2.2 ∧ RwAt w' v x.1 ∧ c = x.2.1
set_option maxHeartbeats 8000000 in
theorem ritem_any {w : World} {b : Nat} {A : Option Addr} {c : Nat} {zs : List ByteArray} {l : List UInt8} (h : Rp w b A c zs l) (h93 : hdC l ≠ [93]) (o : Option (List Rw × ByteArray × List UInt8)) (ho : itemP l = o) :
    Calls Try.prog 69 #[.pointer (some ⟨b, 0, none⟩)] w (RitPost w b zs o) := by
  have HS := hide h
  unfold RitPost
  obtain ⟨k, hk⟩ : ∃ k, zs.length - (splitL l).length = k := ⟨_, rfl⟩
  have hk1000 : k ≤ 1000 := by have := h.sz; omega
  have ew1 : IntKind.i64.wrap ((k : Int) + 1) = (k : Int) + 1 := by rw [IntKind.wrap_i64]; omega
  have HK := hide hk
  obtain ⟨C, hC⟩ : ∃ C, bsC (hdC l) = C := ⟨_, rfl⟩
  have HSEE := hide (rr_see_at h (bl_refl w) C hC k hk)
  have hCd : C.data.toList = hdC l := by rw [← hC, bsC_data]
  have HC := hide hC
  obtain ⟨y9, z9⟩ := lit_eq C #[93] false (by rw [hCd, Bool.eq_false_iff]; intro e; exact h93 (beq_iff_eq.1 e))
  obtain ⟨q2, hq2⟩ : ∃ q, (hdC l == []) = q := ⟨_, rfl⟩
  obtain ⟨y2, z2⟩ := lit_eq C #[] q2 (by rw [hCd]; exact hq2)
  have x2 : C.toList.isEmpty = q2 := by rw [← z2, Bool.eq_iff_iff]; simp
  obtain ⟨q1, hq1⟩ : ∃ q, (hdC l == [92]) = q := ⟨_, rfl⟩
  obtain ⟨y1, z1⟩ := lit_eq C #[92] q1 (by rw [hCd]; exact hq1)
  have HEN := HK
  clear hC hk h h93 hCd
  cases q2
  rotate_left
  · have hl : hdC l = [] := by simpa using hq2
    have hoo : o = none := by rw [← ho]; unfold itemP; rw [hl]; rfl
    subst hoo
    clear hq1 hq2 ho hl
    go_enter Try.func69, Try.ntmps69
    go_wp2_with fail
    refine HSEE.out.mono ?_
    rintro e w1 ⟨rfl, hb1, c1, f1⟩
    have HB := hide hb1
    clear hb1
    go_wp2
    go_ret3
    exact ⟨.slice none 0 0, ⟨#[]⟩, rfl, ⟨_, (HS.out.self HB.out).1⟩, frv0 _, fun x hx => by cases hx⟩
  have hne : l ≠ [] := by rintro rfl; simp [hdC] at hq2
  have HST := hide (fun W (hb : Below w.heap.size w W) => rr_step HS.out hne hb k HK.out)
  have hq2' := hq2
  cases q1
  · have hoo : o = some ([], C, tlC l) := by
      rw [← ho]; unfold itemP; rw [hq1, hq2, if_neg (by decide), if_neg (by decide), HC.out]
    subst hoo
    clear hq1 hq2 ho hq2' hne
    go_enter Try.func69, Try.ntmps69
    go_wp2_with fail
    refine HSEE.out.mono ?_
    rintro e w1 ⟨rfl, hb1, c1, f1⟩
    have HB := hide hb1
    clear hb1
    go_wp2
    go_ret3
    exact ⟨.slice none 0 0, C, rfl, ⟨_, (HST.out _ HB.out).1⟩, frv0 _, fun x hx => by cases hx; exact ⟨HST.out _ HB.out, .inl ⟨rfl, rfl⟩, rfl⟩⟩
  have hl92 : hdC l = [92] := by simpa using hq1
  obtain ⟨r, hr⟩ : ∃ r, tlC l = r := ⟨_, rfl⟩
  rw [hr] at HST
  obtain ⟨k2, hk2⟩ : ∃ k2, zs.length - (splitL r).length = k2 := ⟨_, rfl⟩
  have hk2000 : k2 ≤ 1000 := by have := HS.out.sz; omega
  have ew2 : IntKind.i64.wrap ((k2 : Int) + 1) = (k2 : Int) + 1 := by rw [IntKind.wrap_i64]; omega
  obtain ⟨D, hD⟩ : ∃ D, bsC (hdC r) = D := ⟨_, rfl⟩
  have HSEE2 := hide (fun W (hp : Rp W b A c zs r) => rr_see_at hp (bl_refl W) D hD k2 hk2)
  have hDd : D.data.toList = hdC r := by rw [← hD, bsC_data]
  have hDz : D.size = (hdC r).length := by rw [← hDd]; exact (Array.length_toList).symm
  have HD := hide hD
  have HK2 := hide hk2
  have HSZ : D.size ≤ 1000000 := by
    have := ((HST.out _ (bl_refl w)).pl HS.out).hd_le
    omega
  obtain ⟨z, hz⟩ : ∃ z, escP D = z := ⟨_, rfl⟩
  have hes := fun W => rescape_any D HSZ z hz W
  unfold EsPost at hes
  have HES := hide hes
  have HBL := hide HS.out.lt
  clear hes hD hk2 hq1 hq2 hq2' hne HSZ
  -- what stands at the end when the character was read by the escape
  have HEND := hide (show ∀ w1 w3, (itemP l = z.map (fun d => ([], d, tlC r))) → Below w.heap.size w w1 → Below (w1.setCell ⟨b, 1, none⟩ (.int .i64 ((k : Int) + 1))).heap.size (w1.setCell ⟨b, 1, none⟩ (.int .i64 ((k : Int) + 1))) w3 →
      (∃ k', Mvd w (w3.setCell ⟨b, 1, none⟩ (.int .i64 ((k2 : Int) + 1))) b 0 k') ∧ z.isSome = o.isSome ∧ ∀ x, o = some x → Rv w (w3.setCell ⟨b, 1, none⟩ (.int .i64 ((k2 : Int) + 1))) b zs x.2.2 ∧ x.1 = [] ∧ z.getD ⟨#[]⟩ = x.2.1 from by
    intro w1 w3 hi hb1 hb3
    have m1 := HST.out _ hb1
    have hp2 := m1.pl HS.out
    have hmv : Mvd w (w3.setCell ⟨b, 1, none⟩ (.int .i64 ((k2 : Int) + 1))) b 0 (k2 + 1) := (m1.bl hb3).1.set (k2 + 1)
    rw [ho] at hi
    refine ⟨⟨_, hmv⟩, by rw [hi]; cases z <;> rfl, fun x hx => ?_⟩
    rw [hi] at hx
    rcases z with _ | d
    · cases hx
    · cases hx
      have hr0 : r ≠ [] := by
        rintro rfl
        have : D = ⟨#[]⟩ := by rw [← HD.out]; rfl
        rw [this] at hz
        have h9 : escP ⟨#[]⟩ = none := by decide
        rw [h9] at hz; cases hz
      exact ⟨m1.trans (rr_step hp2 hr0 hb3 k2 HK2.out), rfl, rfl⟩)
  by_cases hl1 : (hdC r).length = 1
  · obtain ⟨y, hy⟩ := List.length_eq_one_iff.1 hl1
    have hx1 : D.size = 1 := by omega
    have hp0 : 0 < D.size := by omega
    have hx0 : (D[0]'hp0).toNat = y.toNat := by
      have : D.data.toList[0]'(by rw [hDd, hl1]; decide) = y := by simp [hDd, hy]
      rw [← this]; rfl
    have hIT := itemP_y hl92 hr hy
    have hbs : bsC [y] = D := by rw [← hy, HD.out]
    rw [hbs, hz] at hIT
    have hr0 : r ≠ [] := by rintro rfl; simp [hdC] at hl1
    obtain ⟨cn, hcn⟩ : ∃ cn, y.toNat = cn := ⟨_, rfl⟩
    rw [hcn] at hx0 hIT
    have hnm := fun W => rnamf_any (cn : Int) W
    obtain ⟨nb, hnb⟩ : ∃ nb, namB (cn : Int) = nb := ⟨_, rfl⟩
    obtain ⟨nr, hnr⟩ : ∃ nr, namR (cn : Int) = nr := ⟨_, rfl⟩
    rw [hnb, hnr] at hnm hIT
    unfold NmfPost at hnm
    have HNM := hide hnm
    have gs : ((D.size : Int) == 1) = true := by rw [hx1]; rfl
    have gs' : (D.size == 1) = true := by rw [hx1]; rfl
    have i0 : (0 : Int) < (D.size : Int) := by omega
    have hxi : ((D[0]'hp0).toNat : Int) = (cn : Int) := by rw [hx0]
    have HIT := hide hIT
    have HR0 := hide hr0
    have HO := hide ho
    clear hnm hnb hnr hcn hy hx0 hx1 hl1 hDz hDd hIT hbs hr0 hz hl92 ho hr
    cases nb
    · go_enter Try.func69, Try.ntmps69
      go_wp2_with fail
      refine HSEE.out.mono ?_
      rintro e w1 ⟨rfl, hb1, c1, f1⟩
      have HB := hide hb1
      clear hb1
      go_wp2_with fail
      refine (HSEE2.out _ ((HST.out _ HB.out).pl HS.out)).mono ?_
      rintro e w3 ⟨rfl, hb3, c3, f3⟩
      have HB3 := hide hb3
      clear hb3
      go_wp2_with fail
      refine (HNM.out _).mono ?_
      rintro e w4 ⟨v, rfl, hb4, hrw, hfv⟩
      have hbl3 := World.block_lt_of_cell? _ _ c3
      have c4 := cell_later hb4 c3
      have f4 := (hb4.frozen (p := ⟨b, 1, none⟩) hbl3).trans f3
      have HB4 := hide (bl_trans HB3.out hb4)
      clear hb4 hrw hfv
      go_wp2_with fail
      refine (HES.out _).mono ?_
      rintro e w5 ⟨rfl, rfl⟩
      obtain ⟨g1, g2, g3⟩ := HEND.out w1 w4 (by rw [HIT.out]; rfl) HB.out HB4.out
      have G1 := hide g1
      have G2 := hide g2
      have G3 := hide g3
      clear g1 g2 g3
      go_wp2
      go_ret3
      exact ⟨.slice none 0 0, z.getD ⟨#[]⟩, by rw [← G2.out]; rfl, G1.out, frv0 _, fun x hx => ⟨(G3.out x hx).1, .inl ⟨rfl, (G3.out x hx).2.1⟩, (G3.out x hx).2.2⟩⟩
    · have hoo : o = some (nr, ⟨#[]⟩, tlC r) := by rw [← HO.out, HIT.out]; rfl
      subst hoo
      go_enter Try.func69, Try.ntmps69
      go_wp2_with fail
      refine HSEE.out.mono ?_
      rintro e w1 ⟨rfl, hb1, c1, f1⟩
      have HB := hide hb1
      clear hb1
      go_wp2_with fail
      refine (HSEE2.out _ ((HST.out _ HB.out).pl HS.out)).mono ?_
      rintro e w3 ⟨rfl, hb3, c3, f3⟩
      have HB3 := hide hb3
      clear hb3
      go_wp2_with fail
      refine (HNM.out _).mono ?_
      rintro e w4 ⟨v, rfl, hb4, hrw, hfv⟩
      have hbl3 := World.block_lt_of_cell? _ _ c3
      have c4 := cell_later hb4 c3
      have f4 := (hb4.frozen (p := ⟨b, 1, none⟩) hbl3).trans f3
      have HEN2 := hide (show Rv w (w4.setCell ⟨b, 1, none⟩ (.int .i64 ((k2 : Int) + 1))) b zs (tlC r) from
        (HST.out _ HB.out).trans (rr_step ((HST.out _ HB.out).pl HS.out) HR0.out (bl_trans HB3.out hb4) k2 HK2.out))
      have HRW := hide (rwat_set (o := 1) (u := .int .i64 ((k2 : Int) + 1)) hrw hfv hbl3)
      have HFV := hide (hfv.mono (Nat.le_trans ((HST.out _ HB.out).1.grown.size) HB3.out.size))
      clear hb4 hrw hfv
      go_wp2
      go_ret3
      exact ⟨v, ⟨#[]⟩, rfl, ⟨_, HEN2.out.1⟩, HFV.out, fun x hx => by cases hx; exact ⟨HEN2.out, HRW.out, rfl⟩⟩
  · have hIT := itemP_e hl92 hr hl1
    rw [HD.out, hz] at hIT
    have HIT := hide hIT
    have gs : ((D.size : Int) == 1) = false := by rw [Bool.eq_false_iff]; intro h1; apply hl1; rw [← hDz]; have := beq_iff_eq.1 h1; omega
    have gs' : (D.size == 1) = false := by rw [Bool.eq_false_iff]; intro h1; apply hl1; rw [← hDz]; have := beq_iff_eq.1 h1; omega
    have HO := hide ho
    clear hIT hl1 hDz hDd hz hl92 ho hr
    go_enter Try.func69, Try.ntmps69
    go_wp2_with fail
    refine HSEE.out.mono ?_
    rintro e w1 ⟨rfl, hb1, c1, f1⟩
    have HB := hide hb1
    clear hb1
    go_wp2_with fail
    refine (HSEE2.out _ ((HST.out _ HB.out).pl HS.out)).mono ?_
    rintro e w3 ⟨rfl, hb3, c3, f3⟩
    have HB3 := hide hb3
    clear hb3
    go_wp2_with fail
    refine (HES.out _).mono ?_
    rintro e w5 ⟨rfl, rfl⟩
    obtain ⟨g1, g2, g3⟩ := HEND.out w1 w3 HIT.out HB.out HB3.out
    have G1 := hide g1
    have G2 := hide g2
    have G3 := hide g3
    clear g1 g2 g3
    go_wp2
    go_ret3
    exact ⟨.slice none 0 0, z.getD ⟨#[]⟩, by rw [← G2.out]; rfl, G1.out, frv0 _, fun x hx => ⟨(G3.out x hx).1, .inl ⟨rfl, (G3.out x hx).2.1⟩, (G3.out x hx).2.2⟩⟩
end
section
open Go.ChangeShapes Go.WideShapes Go.ChangeAt Go.RowKit
open SetM
attribute [local go_sem ↓] Go.wp_at_zero Go.wp_at_succ
set_option maxRecDepth 100000
set_option linter.unusedVariables false
attribute [local go_sem] later_cell later_frozen
def RrPost (w : World) (b : Nat) (zs : List ByteArray) : Res → Ending → World → Prop
  | .no, _, _ => False
  | .err n, e, w' => e = .returned (.tuple #[rt0.v, .int .i64 n]) ∧ ∃ k, Mvd w w' b 0 k
  | .ok x r, e, w' => ∃ t, e = .returned (.tuple #[t.v, .int .i64 0]) ∧ Rv w w' b zs r ∧ RxAt w' t ∧ Fr w.heap.size t ∧ er t = x
theorem Mvd.block {w w' : World} {b o k : Nat} (h : Mvd w w' b o k) {i : Nat} (hi : i < w.heap.size) (hb : i ≠ b) : w'.heap[i]? = w.heap[i]? :=
  h.grown.block i hi (fun e => hb (by injection e))
theorem Mvd.cell {w w' : World} {b o k : Nat} (h : Mvd w w' b o k) {p : Addr} {v : Value} (hc : w.cell? p = some v) (hb : p.block ≠ b) : w'.cell? p = some v := by
  have hi := World.block_lt_of_cell? _ _ hc
  rw [← hc]
  have hbk := h.block hi hb
  simp only [World.cell?, hbk]
theorem Mvd.frz {w w' : World} {b o k : Nat} (h : Mvd w w' b o k) {p : Addr} (hi : p.block < w.heap.size) (hb : p.block ≠ b) : w'.frozen? p = w.frozen? p := by
  have hbk := h.block hi hb
  simp only [World.frozen?, hbk]
theorem Mvd.append {w w1 w2 : World} {b o k g : Nat} (h : Mvd w w1 b o k) (hg : w1.grownBy w2 (some g)) (hb : g ≠ b) (hw : w.heap.size ≤ g) : Mvd w w2 b o k := by
  have hlt := h.lt
  have hbk : w2.heap[b]? = w1.heap[b]? := hg.block b hlt (fun e => hb (by injection e with e; exact e.symm))
  have hc : ∀ q, w2.cell? ⟨b, q, none⟩ = w1.cell? ⟨b, q, none⟩ := fun q => by simp only [World.cell?, hbk]
  have hf : ∀ q, w2.frozen? ⟨b, q, none⟩ = w1.frozen? ⟨b, q, none⟩ := fun q => by simp only [World.frozen?, hbk]
  refine ⟨⟨hg.os.trans h.grown.os, hg.tape.trans h.grown.tape, hg.output.trans h.grown.output, Nat.le_trans h.grown.size hg.size, fun i hi hn => ?_⟩, fun q hq => (hc q).trans (h.cells q hq), (hc _).trans h.pos, fun q => (hf q).trans (h.froz q)⟩
  exact (hg.block i (Nat.lt_of_lt_of_le hi h.grown.size) (fun e => by injection e with e; omega)).trans (h.grown.block i hi hn)
theorem Mvd.put {w w1 : World} {b o k g : Nat} (h : Mvd w w1 b o k) (hb : g ≠ b) (hw : w.heap.size ≤ g) (q : Nat) (u : Value) : Mvd w (w1.setCell ⟨g, q, none⟩ u) b o k :=
  h.append (grown_set (grown_refl w1 _) q u) hb hw
theorem mvd8 {w w1 : World} {b o k g : Nat} (h : Mvd w w1 b o k) (hb : g ≠ b) (hw : w.heap.size ≤ g) (o0 : Nat) (u0 : Value) (o1 : Nat) (u1 : Value) (o2 : Nat) (u2 : Value) (o3 : Nat) (u3 : Value) (o4 : Nat) (u4 : Value) (o5 : Nat) (u5 : Value) (o6 : Nat) (u6 : Value) (o7 : Nat) (u7 : Value) :
    Mvd w ((((((((w1.setCell ⟨g, o0, none⟩ u0).setCell ⟨g, o1, none⟩ u1).setCell ⟨g, o2, none⟩ u2).setCell ⟨g, o3, none⟩ u3).setCell ⟨g, o4, none⟩ u4).setCell ⟨g, o5, none⟩ u5).setCell ⟨g, o6, none⟩ u6).setCell ⟨g, o7, none⟩ u7) b o k :=
  (((((((h.put hb hw _ _).put hb hw _ _).put hb hw _ _).put hb hw _ _).put hb hw _ _).put hb hw _ _).put hb hw _ _).put hb hw _ _
theorem rv8 {w w1 : World} {b g : Nat} {zs : List ByteArray} {l : List UInt8} (h : Rv w w1 b zs l) (hb : g ≠ b) (hw : w.heap.size ≤ g) (o0 : Nat) (u0 : Value) (o1 : Nat) (u1 : Value) (o2 : Nat) (u2 : Value) (o3 : Nat) (u3 : Value) (o4 : Nat) (u4 : Value) (o5 : Nat) (u5 : Value) (o6 : Nat) (u6 : Value) (o7 : Nat) (u7 : Value) :
    Rv w ((((((((w1.setCell ⟨g, o0, none⟩ u0).setCell ⟨g, o1, none⟩ u1).setCell ⟨g, o2, none⟩ u2).setCell ⟨g, o3, none⟩ u3).setCell ⟨g, o4, none⟩ u4).setCell ⟨g, o5, none⟩ u5).setCell ⟨g, o6, none⟩ u6).setCell ⟨g, o7, none⟩ u7) b zs l :=
  ⟨mvd8 h.1 hb hw _ _ _ _ _ _ _ _ _ _ _ _ _ _ _ _, h.2⟩
set_option maxHeartbeats 8000000 in
theorem rback_any {w : World} {b : Nat} {A : Option Addr} {c : Nat} {zs : List ByteArray} {l : List UInt8} (h : Rp w b A c zs l) (h98 : hdC l ≠ [98]) (h66 : hdC l ≠ [66]) (res : Res) (ho : bakP l = res) :
    Calls Try.prog 67 #[.pointer (some ⟨b, 0, none⟩)] w (RrPost w b zs res) := by
  have hbl := h.lt
  have hne : ¬ (b = w.heap.size) := by omega
  have hne2 : ¬ (w.heap.size = b) := by omega
  have HNB := hide (show w.heap.size ≠ b from hne2)
  have HS := hide h
  have HP0 := hide (h.bl (bl_alloc (bl_refl w) (.cells #[.int .i64 0, .string ⟨#[]⟩, .bool false, .slice none 0 0, .int .i64 0, .int .i64 0, .bool false, .slice none 0 0] 25)))
  obtain ⟨k, hk⟩ : ∃ k, zs.length - (splitL l).length = k := ⟨_, rfl⟩
  have hk1000 : k ≤ 1000 := by have := h.sz; omega
  have ew1 : IntKind.i64.wrap ((k : Int) + 1) = (k : Int) + 1 := by rw [IntKind.wrap_i64]; omega
  obtain ⟨C, hC⟩ : ∃ C, bsC (hdC l) = C := ⟨_, rfl⟩
  have HSEE := hide (rr_see_at HP0.out (bl_refl _) C hC k hk)
  have HST := hide (fun (h0 : l ≠ []) W (hb : Below (w.alloc (.cells #[.int .i64 0, .string ⟨#[]⟩, .bool false, .slice none 0 0, .int .i64 0, .int .i64 0, .bool false, .slice none 0 0] 25)).heap.size (w.alloc (.cells #[.int .i64 0, .string ⟨#[]⟩, .bool false, .slice none 0 0, .int .i64 0, .int .i64 0, .bool false, .slice none 0 0] 25)) W) => (HS.out.self (bl_alloc (bl_refl w) (.cells #[.int .i64 0, .string ⟨#[]⟩, .bool false, .slice none 0 0, .int .i64 0, .int .i64 0, .bool false, .slice none 0 0] 25))).trans (rr_step HP0.out h0 hb k hk))
  have HSL := hide (fun W (hb : Below (w.alloc (.cells #[.int .i64 0, .string ⟨#[]⟩, .bool false, .slice none 0 0, .int .i64 0, .int .i64 0, .bool false, .slice none 0 0] 25)).heap.size (w.alloc (.cells #[.int .i64 0, .string ⟨#[]⟩, .bool false, .slice none 0 0, .int .i64 0, .int .i64 0, .bool false, .slice none 0 0] 25)) W) => (HS.out.self (bl_alloc (bl_refl w) (.cells #[.int .i64 0, .string ⟨#[]⟩, .bool false, .slice none 0 0, .int .i64 0, .int .i64 0, .bool false, .slice none 0 0] 25))).bl hb)
  have HSZ : C.size ≤ 1000000 := by rw [← hC, bsC_size]; have := h.hd_le; omega
  have HFD := hide (fun X (hX : mapS downB C = X) W => rfolde_any C X W HSZ hX)
  have HC := hide hC
  have HLT := hide (fun W (hb : Below (w.alloc (.cells #[.int .i64 0, .string ⟨#[]⟩, .bool false, .slice none 0 0, .int .i64 0, .int .i64 0, .bool false, .slice none 0 0] 25)).heap.size (w.alloc (.cells #[.int .i64 0, .string ⟨#[]⟩, .bool false, .slice none 0 0, .int .i64 0, .int .i64 0, .bool false, .slice none 0 0] 25)) W) => (show b < W.heap.size from by have := hb.size; simp at this; omega))
  clear hk h hbl hk1000 hC
  rcases k0 : (hdC l == [100]) with _ | _
  rotate_left
  · have hL : hdC l = [100] := by simpa using k0
    have hr : res = .ok (setX false rD) (tlC l) := by rw [← ho]; unfold bakP; rw [hL]; rfl
    subst hr
    have HL0 := hide (show l ≠ [] by rintro rfl; simp [hdC] at hL)
    have hCe : C = ⟨#[100]⟩ := by rw [← HC.out, hL]; rfl
    subst hCe
    have HX := hide (show mapS downB ⟨#[100]⟩ = ⟨#[100]⟩ by apply ByteArray.ext; apply Array.ext'; decide)
    have hnm := fun W => rnamf_any 100 W
    rw [show namR 100 = rD from rfl, show namB 100 = true from rfl] at hnm
    unfold NmfPost at hnm
    have HNM := hide hnm
    clear hnm hL ho h98 h66 HSZ k0
    go_enter Try.func67, Try.ntmps67
    go_wp2_with fail
    refine HSEE.out.mono ?_
    rintro e w1 ⟨rfl, hb1, c1, f1⟩
    have hs1 : w.heap.size < w1.heap.size := by have := hb1.size; simp at this; omega
    have z0 : w1.cell? ⟨w.heap.size, 0, none⟩ = some (.int .i64 0) := cell_later hb1 (cells_lit w _ _ 0 _ rfl)
    have z1 : w1.cell? ⟨w.heap.size, 1, none⟩ = some (.string ⟨#[]⟩) := cell_later hb1 (cells_lit w _ _ 1 _ rfl)
    have z2 : w1.cell? ⟨w.heap.size, 2, none⟩ = some (.bool false) := cell_later hb1 (cells_lit w _ _ 2 _ rfl)
    have z3 : w1.cell? ⟨w.heap.size, 3, none⟩ = some (.slice none 0 0) := cell_later hb1 (cells_lit w _ _ 3 _ rfl)
    have z4 : w1.cell? ⟨w.heap.size, 4, none⟩ = some (.int .i64 0) := cell_later hb1 (cells_lit w _ _ 4 _ rfl)
    have z5 : w1.cell? ⟨w.heap.size, 5, none⟩ = some (.int .i64 0) := cell_later hb1 (cells_lit w _ _ 5 _ rfl)
    have z6 : w1.cell? ⟨w.heap.size, 6, none⟩ = some (.bool false) := cell_later hb1 (cells_lit w _ _ 6 _ rfl)
    have z7 : w1.cell? ⟨w.heap.size, 7, none⟩ = some (.slice none 0 0) := cell_later hb1 (cells_lit w _ _ 7 _ rfl)
    have hf1 : ∀ o, w1.frozen? ⟨w.heap.size, o, none⟩ = false := fun o => (hb1.frozen (p := ⟨w.heap.size, o, none⟩) (by simp)).trans (by go_simp)
    have B1 := hide hb1
    clear hb1
    go_wp2_with fail
    refine (HFD.out _ HX.out _).mono ?_
    rintro e w2 ⟨rfl, hb2⟩
    replace z0 := cell_later hb2 z0
    replace z1 := cell_later hb2 z1
    replace z2 := cell_later hb2 z2
    replace z3 := cell_later hb2 z3
    replace z4 := cell_later hb2 z4
    replace z5 := cell_later hb2 z5
    replace z6 := cell_later hb2 z6
    replace z7 := cell_later hb2 z7
    have hf2 : ∀ o, w2.frozen? ⟨w.heap.size, o, none⟩ = false := fun o => (hb2.frozen (p := ⟨w.heap.size, o, none⟩) hs1).trans (hf1 o)
    have hs2 : w.heap.size < w2.heap.size := Nat.lt_of_lt_of_le hs1 hb2.size
    have c2 := cell_later hb2 c1
    have f2 := (hb2.frozen (p := ⟨b, 1, none⟩) (World.block_lt_of_cell? _ _ c1)).trans f1
    have B2 := hide (bl_trans B1.out hb2)
    clear hb2 c1 f1 hf1
    go_wp2_with fail
    refine (HNM.out _).mono ?_
    rintro e w3 ⟨v, rfl, hb3, hrw, hfv⟩
    replace z0 := cell_later hb3 z0
    replace z1 := cell_later hb3 z1
    replace z2 := cell_later hb3 z2
    replace z3 := cell_later hb3 z3
    replace z4 := cell_later hb3 z4
    replace z5 := cell_later hb3 z5
    replace z6 := cell_later hb3 z6
    replace z7 := cell_later hb3 z7
    have hf3 : ∀ o, w3.frozen? ⟨w.heap.size, o, none⟩ = false := fun o => (hb3.frozen (p := ⟨w.heap.size, o, none⟩) hs2).trans (hf2 o)
    have hs3 : w.heap.size < w3.heap.size := Nat.lt_of_lt_of_le hs2 hb3.size
    have c3 := cell_later hb3 c2
    have f3 := (hb3.frozen (p := ⟨b, 1, none⟩) (World.block_lt_of_cell? _ _ c2)).trans f2
    have B3 := hide (bl_trans B2.out hb3)
    have HSZ2 := hide hs2
    clear c2 f2 hf2
    obtain ⟨vA, vc, rfl⟩ := rwat_len hrw
    have HRW := hide (rwat_set (o := 1) (u := .int .i64 ((k : Int) + 1)) hrw hfv (World.block_lt_of_cell? _ _ c3 |> fun _ => HLT.out _ B2.out))
    have HFV := hide hfv
    clear hb3 hrw hfv
    go_wp2
    refine bodyPost_ret (v := .tuple #[.agg #[.int .i64 4, .string ⟨#[]⟩, .bool false, .slice vA rD.length vc, .int .i64 0, .int .i64 0, .bool false, .slice none 0 0], .int .i64 0]) ?_ rfl ⟨.mk 4 ⟨#[]⟩ false (.slice vA rD.length vc) rD 0 0 false (.slice none 0 0) [], rfl, (rv8 (HST.out HL0.out _ B3.out) HNB.out (Nat.le_refl _) _ _ _ _ _ _ _ _ _ _ _ _ _ _ _ _), ?_, ?_, ?_⟩
    · rw [results_cell2 rfl]
      go_simp
    · exact .mk _ (rwat_kept HRW.out HFV.out (kept8 _ HSZ2.out _ _ _ _ _ _ _ _ _ _ _ _ _ _ _ _)) (.inl ⟨rfl, rfl⟩) (fun i hi => absurd hi (Nat.not_lt_zero _))
    · exact .mk _ (FrV.mono HFV.out (Nat.le_of_lt HSZ2.out)) (frv0 _) (fun x hx => by cases hx)
    · rw [er_eq]; rfl
  rcases k1 : (hdC l == [119]) with _ | _
  rotate_left
  · have hL : hdC l = [119] := by simpa using k1
    have hr : res = .ok (setX false rW) (tlC l) := by rw [← ho]; unfold bakP; rw [hL]; rfl
    subst hr
    have HL0 := hide (show l ≠ [] by rintro rfl; simp [hdC] at hL)
    have hCe : C = ⟨#[119]⟩ := by rw [← HC.out, hL]; rfl
    subst hCe
    have HX := hide (show mapS downB ⟨#[119]⟩ = ⟨#[119]⟩ by apply ByteArray.ext; apply Array.ext'; decide)
    have hnm := fun W => rnamf_any 119 W
    rw [show namR 119 = rW from rfl, show namB 119 = true from rfl] at hnm
    unfold NmfPost at hnm
    have HNM := hide hnm
    clear hnm hL ho h98 h66 HSZ k0 k1
    go_enter Try.func67, Try.ntmps67
    go_wp2_with fail
    refine HSEE.out.mono ?_
    rintro e w1 ⟨rfl, hb1, c1, f1⟩
    have hs1 : w.heap.size < w1.heap.size := by have := hb1.size; simp at this; omega
    have z0 : w1.cell? ⟨w.heap.size, 0, none⟩ = some (.int .i64 0) := cell_later hb1 (cells_lit w _ _ 0 _ rfl)
    have z1 : w1.cell? ⟨w.heap.size, 1, none⟩ = some (.string ⟨#[]⟩) := cell_later hb1 (cells_lit w _ _ 1 _ rfl)
    have z2 : w1.cell? ⟨w.heap.size, 2, none⟩ = some (.bool false) := cell_later hb1 (cells_lit w _ _ 2 _ rfl)
    have z3 : w1.cell? ⟨w.heap.size, 3, none⟩ = some (.slice none 0 0) := cell_later hb1 (cells_lit w _ _ 3 _ rfl)
    have z4 : w1.cell? ⟨w.heap.size, 4, none⟩ = some (.int .i64 0) := cell_later hb1 (cells_lit w _ _ 4 _ rfl)
    have z5 : w1.cell? ⟨w.heap.size, 5, none⟩ = some (.int .i64 0) := cell_later hb1 (cells_lit w _ _ 5 _ rfl)
    have z6 : w1.cell? ⟨w.heap.size, 6, none⟩ = some (.bool false) := cell_later hb1 (cells_lit w _ _ 6 _ rfl)
    have z7 : w1.cell? ⟨w.heap.size, 7, none⟩ = some (.slice none 0 0) := cell_later hb1 (cells_lit w _ _ 7 _ rfl)
    have hf1 : ∀ o, w1.frozen? ⟨w.heap.size, o, none⟩ = false := fun o => (hb1.frozen (p := ⟨w.heap.size, o, none⟩) (by simp)).trans (by go_simp)
    have B1 := hide hb1
    clear hb1
    go_wp2_with fail
    refine (HFD.out _ HX.out _).mono ?_
    rintro e w2 ⟨rfl, hb2⟩
    replace z0 := cell_later hb2 z0
    replace z1 := cell_later hb2 z1
    replace z2 := cell_later hb2 z2
    replace z3 := cell_later hb2 z3
    replace z4 := cell_later hb2 z4
    replace z5 := cell_later hb2 z5
    replace z6 := cell_later hb2 z6
    replace z7 := cell_later hb2 z7
    have hf2 : ∀ o, w2.frozen? ⟨w.heap.size, o, none⟩ = false := fun o => (hb2.frozen (p := ⟨w.heap.size, o, none⟩) hs1).trans (hf1 o)
    have hs2 : w.heap.size < w2.heap.size := Nat.lt_of_lt_of_le hs1 hb2.size
    have c2 := cell_later hb2 c1
    have f2 := (hb2.frozen (p := ⟨b, 1, none⟩) (World.block_lt_of_cell? _ _ c1)).trans f1
    have B2 := hide (bl_trans B1.out hb2)
    clear hb2 c1 f1 hf1
    go_wp2_with fail
    refine (HNM.out _).mono ?_
    rintro e w3 ⟨v, rfl, hb3, hrw, hfv⟩
    replace z0 := cell_later hb3 z0
    replace z1 := cell_later hb3 z1
    replace z2 := cell_later hb3 z2
    replace z3 := cell_later hb3 z3
    replace z4 := cell_later hb3 z4
    replace z5 := cell_later hb3 z5
    replace z6 := cell_later hb3 z6
    replace z7 := cell_later hb3 z7
    have hf3 : ∀ o, w3.frozen? ⟨w.heap.size, o, none⟩ = false := fun o => (hb3.frozen (p := ⟨w.heap.size, o, none⟩) hs2).trans (hf2 o)
    have hs3 : w.heap.size < w3.heap.size := Nat.lt_of_lt_of_le hs2 hb3.size
    have c3 := cell_later hb3 c2
    have f3 := (hb3.frozen (p := ⟨b, 1, none⟩) (World.block_lt_of_cell? _ _ c2)).trans f2
    have B3 := hide (bl_trans B2.out hb3)
    have HSZ2 := hide hs2
    clear c2 f2 hf2
    obtain ⟨vA, vc, rfl⟩ := rwat_len hrw
    have HRW := hide (rwat_set (o := 1) (u := .int .i64 ((k : Int) + 1)) hrw hfv (World.block_lt_of_cell? _ _ c3 |> fun _ => HLT.out _ B2.out))
    have HFV := hide hfv
    clear hb3 hrw hfv
    go_wp2
    refine bodyPost_ret (v := .tuple #[.agg #[.int .i64 4, .string ⟨#[]⟩, .bool false, .slice vA rW.length vc, .int .i64 0, .int .i64 0, .bool false, .slice none 0 0], .int .i64 0]) ?_ rfl ⟨.mk 4 ⟨#[]⟩ false (.slice vA rW.length vc) rW 0 0 false (.slice none 0 0) [], rfl, (rv8 (HST.out HL0.out _ B3.out) HNB.out (Nat.le_refl _) _ _ _ _ _ _ _ _ _ _ _ _ _ _ _ _), ?_, ?_, ?_⟩
    · rw [results_cell2 rfl]
      go_simp
    · exact .mk _ (rwat_kept HRW.out HFV.out (kept8 _ HSZ2.out _ _ _ _ _ _ _ _ _ _ _ _ _ _ _ _)) (.inl ⟨rfl, rfl⟩) (fun i hi => absurd hi (Nat.not_lt_zero _))
    · exact .mk _ (FrV.mono HFV.out (Nat.le_of_lt HSZ2.out)) (frv0 _) (fun x hx => by cases hx)
    · rw [er_eq]; rfl
  rcases k2 : (hdC l == [115]) with _ | _
  rotate_left
  · have hL : hdC l = [115] := by simpa using k2
    have hr : res = .ok (setX false rS) (tlC l) := by rw [← ho]; unfold bakP; rw [hL]; rfl
    subst hr
    have HL0 := hide (show l ≠ [] by rintro rfl; simp [hdC] at hL)
    have hCe : C = ⟨#[115]⟩ := by rw [← HC.out, hL]; rfl
    subst hCe
    have HX := hide (show mapS downB ⟨#[115]⟩ = ⟨#[115]⟩ by apply ByteArray.ext; apply Array.ext'; decide)
    have hnm := fun W => rnamf_any 115 W
    rw [show namR 115 = rS from rfl, show namB 115 = true from rfl] at hnm
    unfold NmfPost at hnm
    have HNM := hide hnm
    clear hnm hL ho h98 h66 HSZ k0 k1 k2
    go_enter Try.func67, Try.ntmps67
    go_wp2_with fail
    refine HSEE.out.mono ?_
    rintro e w1 ⟨rfl, hb1, c1, f1⟩
    have hs1 : w.heap.size < w1.heap.size := by have := hb1.size; simp at this; omega
    have z0 : w1.cell? ⟨w.heap.size, 0, none⟩ = some (.int .i64 0) := cell_later hb1 (cells_lit w _ _ 0 _ rfl)
    have z1 : w1.cell? ⟨w.heap.size, 1, none⟩ = some (.string ⟨#[]⟩) := cell_later hb1 (cells_lit w _ _ 1 _ rfl)
    have z2 : w1.cell? ⟨w.heap.size, 2, none⟩ = some (.bool false) := cell_later hb1 (cells_lit w _ _ 2 _ rfl)
    have z3 : w1.cell? ⟨w.heap.size, 3, none⟩ = some (.slice none 0 0) := cell_later hb1 (cells_lit w _ _ 3 _ rfl)
    have z4 : w1.cell? ⟨w.heap.size, 4, none⟩ = some (.int .i64 0) := cell_later hb1 (cells_lit w _ _ 4 _ rfl)
    have z5 : w1.cell? ⟨w.heap.size, 5, none⟩ = some (.int .i64 0) := cell_later hb1 (cells_lit w _ _ 5 _ rfl)
    have z6 : w1.cell? ⟨w.heap.size, 6, none⟩ = some (.bool false) := cell_later hb1 (cells_lit w _ _ 6 _ rfl)
    have z7 : w1.cell? ⟨w.heap.size, 7, none⟩ = some (.slice none 0 0) := cell_later hb1 (cells_lit w _ _ 7 _ rfl)
    have hf1 : ∀ o, w1.frozen? ⟨w.heap.size, o, none⟩ = false := fun o => (hb1.frozen (p := ⟨w.heap.size, o, none⟩) (by simp)).trans (by go_simp)
    have B1 := hide hb1
    clear hb1
    go_wp2_with fail
    refine (HFD.out _ HX.out _).mono ?_
    rintro e w2 ⟨rfl, hb2⟩
    replace z0 := cell_later hb2 z0
    replace z1 := cell_later hb2 z1
    replace z2 := cell_later hb2 z2
    replace z3 := cell_later hb2 z3
    replace z4 := cell_later hb2 z4
    replace z5 := cell_later hb2 z5
    replace z6 := cell_later hb2 z6
    replace z7 := cell_later hb2 z7
    have hf2 : ∀ o, w2.frozen? ⟨w.heap.size, o, none⟩ = false := fun o => (hb2.frozen (p := ⟨w.heap.size, o, none⟩) hs1).trans (hf1 o)
    have hs2 : w.heap.size < w2.heap.size := Nat.lt_of_lt_of_le hs1 hb2.size
    have c2 := cell_later hb2 c1
    have f2 := (hb2.frozen (p := ⟨b, 1, none⟩) (World.block_lt_of_cell? _ _ c1)).trans f1
    have B2 := hide (bl_trans B1.out hb2)
    clear hb2 c1 f1 hf1
    go_wp2_with fail
    refine (HNM.out _).mono ?_
    rintro e w3 ⟨v, rfl, hb3, hrw, hfv⟩
    replace z0 := cell_later hb3 z0
    replace z1 := cell_later hb3 z1
    replace z2 := cell_later hb3 z2
    replace z3 := cell_later hb3 z3
    replace z4 := cell_later hb3 z4
    replace z5 := cell_later hb3 z5
    replace z6 := cell_later hb3 z6
    replace z7 := cell_later hb3 z7
    have hf3 : ∀ o, w3.frozen? ⟨w.heap.size, o, none⟩ = false := fun o => (hb3.frozen (p := ⟨w.heap.size, o, none⟩) hs2).trans (hf2 o)
    have hs3 : w.heap.size < w3.heap.size := Nat.lt_of_lt_of_le hs2 hb3.size
    have c3 := cell_later hb3 c2
    have f3 := (hb3.frozen (p := ⟨b, 1, none⟩) (World.block_lt_of_cell? _ _ c2)).trans f2
    have B3 := hide (bl_trans B2.out hb3)
    have HSZ2 := hide hs2
    clear c2 f2 hf2
    obtain ⟨vA, vc, rfl⟩ := rwat_len hrw
    have HRW := hide (rwat_set (o := 1) (u := .int .i64 ((k : Int) + 1)) hrw hfv (World.block_lt_of_cell? _ _ c3 |> fun _ => HLT.out _ B2.out))
    have HFV := hide hfv
    clear hb3 hrw hfv
    go_wp2
    refine bodyPost_ret (v := .tuple #[.agg #[.int .i64 4, .string ⟨#[]⟩, .bool false, .slice vA rS.length vc, .int .i64 0, .int .i64 0, .bool false, .slice none 0 0], .int .i64 0]) ?_ rfl ⟨.mk 4 ⟨#[]⟩ false (.slice vA rS.length vc) rS 0 0 false (.slice none 0 0) [], rfl, (rv8 (HST.out HL0.out _ B3.out) HNB.out (Nat.le_refl _) _ _ _ _ _ _ _ _ _ _ _ _ _ _ _ _), ?_, ?_, ?_⟩
    · rw [results_cell2 rfl]
      go_simp
    · exact .mk _ (rwat_kept HRW.out HFV.out (kept8 _ HSZ2.out _ _ _ _ _ _ _ _ _ _ _ _ _ _ _ _)) (.inl ⟨rfl, rfl⟩) (fun i hi => absurd hi (Nat.not_lt_zero _))
    · exact .mk _ (FrV.mono HFV.out (Nat.le_of_lt HSZ2.out)) (frv0 _) (fun x hx => by cases hx)
    · rw [er_eq]; rfl
  rcases k3 : (hdC l == [68]) with _ | _
  rotate_left
  · have hL : hdC l = [68] := by simpa using k3
    have hr : res = .ok (setX true rD) (tlC l) := by rw [← ho]; unfold bakP; rw [hL]; rfl
    subst hr
    have HL0 := hide (show l ≠ [] by rintro rfl; simp [hdC] at hL)
    have hCe : C = ⟨#[68]⟩ := by rw [← HC.out, hL]; rfl
    subst hCe
    have HX := hide (show mapS downB ⟨#[68]⟩ = ⟨#[100]⟩ by apply ByteArray.ext; apply Array.ext'; decide)
    have hnm := fun W => rnamf_any 100 W
    rw [show namR 100 = rD from rfl, show namB 100 = true from rfl] at hnm
    unfold NmfPost at hnm
    have HNM := hide hnm
    clear hnm hL ho h98 h66 HSZ k0 k1 k2 k3
    go_enter Try.func67, Try.ntmps67
    go_wp2_with fail
    refine HSEE.out.mono ?_
    rintro e w1 ⟨rfl, hb1, c1, f1⟩
    have hs1 : w.heap.size < w1.heap.size := by have := hb1.size; simp at this; omega
    have z0 : w1.cell? ⟨w.heap.size, 0, none⟩ = some (.int .i64 0) := cell_later hb1 (cells_lit w _ _ 0 _ rfl)
    have z1 : w1.cell? ⟨w.heap.size, 1, none⟩ = some (.string ⟨#[]⟩) := cell_later hb1 (cells_lit w _ _ 1 _ rfl)
    have z2 : w1.cell? ⟨w.heap.size, 2, none⟩ = some (.bool false) := cell_later hb1 (cells_lit w _ _ 2 _ rfl)
    have z3 : w1.cell? ⟨w.heap.size, 3, none⟩ = some (.slice none 0 0) := cell_later hb1 (cells_lit w _ _ 3 _ rfl)
    have z4 : w1.cell? ⟨w.heap.size, 4, none⟩ = some (.int .i64 0) := cell_later hb1 (cells_lit w _ _ 4 _ rfl)
    have z5 : w1.cell? ⟨w.heap.size, 5, none⟩ = some (.int .i64 0) := cell_later hb1 (cells_lit w _ _ 5 _ rfl)
    have z6 : w1.cell? ⟨w.heap.size, 6, none⟩ = some (.bool false) := cell_later hb1 (cells_lit w _ _ 6 _ rfl)
    have z7 : w1.cell? ⟨w.heap.size, 7, none⟩ = some (.slice none 0 0) := cell_later hb1 (cells_lit w _ _ 7 _ rfl)
    have hf1 : ∀ o, w1.frozen? ⟨w.heap.size, o, none⟩ = false := fun o => (hb1.frozen (p := ⟨w.heap.size, o, none⟩) (by simp)).trans (by go_simp)
    have B1 := hide hb1
    clear hb1
    go_wp2_with fail
    refine (HFD.out _ HX.out _).mono ?_
    rintro e w2 ⟨rfl, hb2⟩
    replace z0 := cell_later hb2 z0
    replace z1 := cell_later hb2 z1
    replace z2 := cell_later hb2 z2
    replace z3 := cell_later hb2 z3
    replace z4 := cell_later hb2 z4
    replace z5 := cell_later hb2 z5
    replace z6 := cell_later hb2 z6
    replace z7 := cell_later hb2 z7
    have hf2 : ∀ o, w2.frozen? ⟨w.heap.size, o, none⟩ = false := fun o => (hb2.frozen (p := ⟨w.heap.size, o, none⟩) hs1).trans (hf1 o)
    have hs2 : w.heap.size < w2.heap.size := Nat.lt_of_lt_of_le hs1 hb2.size
    have c2 := cell_later hb2 c1
    have f2 := (hb2.frozen (p := ⟨b, 1, none⟩) (World.block_lt_of_cell? _ _ c1)).trans f1
    have B2 := hide (bl_trans B1.out hb2)
    clear hb2 c1 f1 hf1
    go_wp2_with fail
    refine (HNM.out _).mono ?_
    rintro e w3 ⟨v, rfl, hb3, hrw, hfv⟩
    replace z0 := cell_later hb3 z0
    replace z1 := cell_later hb3 z1
    replace z2 := cell_later hb3 z2
    replace z3 := cell_later hb3 z3
    replace z4 := cell_later hb3 z4
    replace z5 := cell_later hb3 z5
    replace z6 := cell_later hb3 z6
    replace z7 := cell_later hb3 z7
    have hf3 : ∀ o, w3.frozen? ⟨w.heap.size, o, none⟩ = false := fun o => (hb3.frozen (p := ⟨w.heap.size, o, none⟩) hs2).trans (hf2 o)
    have hs3 : w.heap.size < w3.heap.size := Nat.lt_of_lt_of_le hs2 hb3.size
    have c3 := cell_later hb3 c2
    have f3 := (hb3.frozen (p := ⟨b, 1, none⟩) (World.block_lt_of_cell? _ _ c2)).trans f2
    have B3 := hide (bl_trans B2.out hb3)
    have HSZ2 := hide hs2
    clear c2 f2 hf2
    obtain ⟨vA, vc, rfl⟩ := rwat_len hrw
    have HRW := hide (rwat_set (o := 1) (u := .int .i64 ((k : Int) + 1)) hrw hfv (World.block_lt_of_cell? _ _ c3 |> fun _ => HLT.out _ B2.out))
    have HFV := hide hfv
    clear hb3 hrw hfv
    go_wp2
    refine bodyPost_ret (v := .tuple #[.agg #[.int .i64 4, .string ⟨#[]⟩, .bool true, .slice vA rD.length vc, .int .i64 0, .int .i64 0, .bool false, .slice none 0 0], .int .i64 0]) ?_ rfl ⟨.mk 4 ⟨#[]⟩ true (.slice vA rD.length vc) rD 0 0 false (.slice none 0 0) [], rfl, (rv8 (HST.out HL0.out _ B3.out) HNB.out (Nat.le_refl _) _ _ _ _ _ _ _ _ _ _ _ _ _ _ _ _), ?_, ?_, ?_⟩
    · rw [results_cell2 rfl]
      go_simp
    · exact .mk _ (rwat_kept HRW.out HFV.out (kept8 _ HSZ2.out _ _ _ _ _ _ _ _ _ _ _ _ _ _ _ _)) (.inl ⟨rfl, rfl⟩) (fun i hi => absurd hi (Nat.not_lt_zero _))
    · exact .mk _ (FrV.mono HFV.out (Nat.le_of_lt HSZ2.out)) (frv0 _) (fun x hx => by cases hx)
    · rw [er_eq]; rfl
  rcases k4 : (hdC l == [87]) with _ | _
  rotate_left
  · have hL : hdC l = [87] := by simpa using k4
    have hr : res = .ok (setX true rW) (tlC l) := by rw [← ho]; unfold bakP; rw [hL]; rfl
    subst hr
    have HL0 := hide (show l ≠ [] by rintro rfl; simp [hdC] at hL)
    have hCe : C = ⟨#[87]⟩ := by rw [← HC.out, hL]; rfl
    subst hCe
    have HX := hide (show mapS downB ⟨#[87]⟩ = ⟨#[119]⟩ by apply ByteArray.ext; apply Array.ext'; decide)
    have hnm := fun W => rnamf_any 119 W
    rw [show namR 119 = rW from rfl, show namB 119 = true from rfl] at hnm
    unfold NmfPost at hnm
    have HNM := hide hnm
    clear hnm hL ho h98 h66 HSZ k0 k1 k2 k3 k4
    go_enter Try.func67, Try.ntmps67
    go_wp2_with fail
    refine HSEE.out.mono ?_
    rintro e w1 ⟨rfl, hb1, c1, f1⟩
    have hs1 : w.heap.size < w1.heap.size := by have := hb1.size; simp at this; omega
    have z0 : w1.cell? ⟨w.heap.size, 0, none⟩ = some (.int .i64 0) := cell_later hb1 (cells_lit w _ _ 0 _ rfl)
    have z1 : w1.cell? ⟨w.heap.size, 1, none⟩ = some (.string ⟨#[]⟩) := cell_later hb1 (cells_lit w _ _ 1 _ rfl)
    have z2 : w1.cell? ⟨w.heap.size, 2, none⟩ = some (.bool false) := cell_later hb1 (cells_lit w _ _ 2 _ rfl)
    have z3 : w1.cell? ⟨w.heap.size, 3, none⟩ = some (.slice none 0 0) := cell_later hb1 (cells_lit w _ _ 3 _ rfl)
    have z4 : w1.cell? ⟨w.heap.size, 4, none⟩ = some (.int .i64 0) := cell_later hb1 (cells_lit w _ _ 4 _ rfl)
    have z5 : w1.cell? ⟨w.heap.size, 5, none⟩ = some (.int .i64 0) := cell_later hb1 (cells_lit w _ _ 5 _ rfl)
    have z6 : w1.cell? ⟨w.heap.size, 6, none⟩ = some (.bool false) := cell_later hb1 (cells_lit w _ _ 6 _ rfl)
    have z7 : w1.cell? ⟨w.heap.size, 7, none⟩ = some (.slice none 0 0) := cell_later hb1 (cells_lit w _ _ 7 _ rfl)
    have hf1 : ∀ o, w1.frozen? ⟨w.heap.size, o, none⟩ = false := fun o => (hb1.frozen (p := ⟨w.heap.size, o, none⟩) (by simp)).trans (by go_simp)
    have B1 := hide hb1
    clear hb1
    go_wp2_with fail
    refine (HFD.out _ HX.out _).mono ?_
    rintro e w2 ⟨rfl, hb2⟩
    replace z0 := cell_later hb2 z0
    replace z1 := cell_later hb2 z1
    replace z2 := cell_later hb2 z2
    replace z3 := cell_later hb2 z3
    replace z4 := cell_later hb2 z4
    replace z5 := cell_later hb2 z5
    replace z6 := cell_later hb2 z6
    replace z7 := cell_later hb2 z7
    have hf2 : ∀ o, w2.frozen? ⟨w.heap.size, o, none⟩ = false := fun o => (hb2.frozen (p := ⟨w.heap.size, o, none⟩) hs1).trans (hf1 o)
    have hs2 : w.heap.size < w2.heap.size := Nat.lt_of_lt_of_le hs1 hb2.size
    have c2 := cell_later hb2 c1
    have f2 := (hb2.frozen (p := ⟨b, 1, none⟩) (World.block_lt_of_cell? _ _ c1)).trans f1
    have B2 := hide (bl_trans B1.out hb2)
    clear hb2 c1 f1 hf1
    go_wp2_with fail
    refine (HNM.out _).mono ?_
    rintro e w3 ⟨v, rfl, hb3, hrw, hfv⟩
    replace z0 := cell_later hb3 z0
    replace z1 := cell_later hb3 z1
    replace z2 := cell_later hb3 z2
    replace z3 := cell_later hb3 z3
    replace z4 := cell_later hb3 z4
    replace z5 := cell_later hb3 z5
    replace z6 := cell_later hb3 z6
    replace z7 := cell_later hb3 z7
    have hf3 : ∀ o, w3.frozen? ⟨w.heap.size, o, none⟩ = false := fun o => (hb3.frozen (p := ⟨w.heap.size, o, none⟩) hs2).trans (hf2 o)
    have hs3 : w.heap.size < w3.heap.size := Nat.lt_of_lt_of_le hs2 hb3.size
    have c3 := cell_later hb3 c2
    have f3 := (hb3.frozen (p := ⟨b, 1, none⟩) (World.block_lt_of_cell? _ _ c2)).trans f2
    have B3 := hide (bl_trans B2.out hb3)
    have HSZ2 := hide hs2
    clear c2 f2 hf2
    obtain ⟨vA, vc, rfl⟩ := rwat_len hrw
    have HRW := hide (rwat_set (o := 1) (u := .int .i64 ((k : Int) + 1)) hrw hfv (World.block_lt_of_cell? _ _ c3 |> fun _ => HLT.out _ B2.out))
    have HFV := hide hfv
    clear hb3 hrw hfv
    go_wp2
    refine bodyPost_ret (v := .tuple #[.agg #[.int .i64 4, .string ⟨#[]⟩, .bool true, .slice vA rW.length vc, .int .i64 0, .int .i64 0, .bool false, .slice none 0 0], .int .i64 0]) ?_ rfl ⟨.mk 4 ⟨#[]⟩ true (.slice vA rW.length vc) rW 0 0 false (.slice none 0 0) [], rfl, (rv8 (HST.out HL0.out _ B3.out) HNB.out (Nat.le_refl _) _ _ _ _ _ _ _ _ _ _ _ _ _ _ _ _), ?_, ?_, ?_⟩
    · rw [results_cell2 rfl]
      go_simp
    · exact .mk _ (rwat_kept HRW.out HFV.out (kept8 _ HSZ2.out _ _ _ _ _ _ _ _ _ _ _ _ _ _ _ _)) (.inl ⟨rfl, rfl⟩) (fun i hi => absurd hi (Nat.not_lt_zero _))
    · exact .mk _ (FrV.mono HFV.out (Nat.le_of_lt HSZ2.out)) (frv0 _) (fun x hx => by cases hx)
    · rw [er_eq]; rfl
  rcases k5 : (hdC l == [83]) with _ | _
  rotate_left
  · have hL : hdC l = [83] := by simpa using k5
    have hr : res = .ok (setX true rS) (tlC l) := by rw [← ho]; unfold bakP; rw [hL]; rfl
    subst hr
    have HL0 := hide (show l ≠ [] by rintro rfl; simp [hdC] at hL)
    have hCe : C = ⟨#[83]⟩ := by rw [← HC.out, hL]; rfl
    subst hCe
    have HX := hide (show mapS downB ⟨#[83]⟩ = ⟨#[115]⟩ by apply ByteArray.ext; apply Array.ext'; decide)
    have hnm := fun W => rnamf_any 115 W
    rw [show namR 115 = rS from rfl, show namB 115 = true from rfl] at hnm
    unfold NmfPost at hnm
    have HNM := hide hnm
    clear hnm hL ho h98 h66 HSZ k0 k1 k2 k3 k4 k5
    go_enter Try.func67, Try.ntmps67
    go_wp2_with fail
    refine HSEE.out.mono ?_
    rintro e w1 ⟨rfl, hb1, c1, f1⟩
    have hs1 : w.heap.size < w1.heap.size := by have := hb1.size; simp at this; omega
    have z0 : w1.cell? ⟨w.heap.size, 0, none⟩ = some (.int .i64 0) := cell_later hb1 (cells_lit w _ _ 0 _ rfl)
    have z1 : w1.cell? ⟨w.heap.size, 1, none⟩ = some (.string ⟨#[]⟩) := cell_later hb1 (cells_lit w _ _ 1 _ rfl)
    have z2 : w1.cell? ⟨w.heap.size, 2, none⟩ = some (.bool false) := cell_later hb1 (cells_lit w _ _ 2 _ rfl)
    have z3 : w1.cell? ⟨w.heap.size, 3, none⟩ = some (.slice none 0 0) := cell_later hb1 (cells_lit w _ _ 3 _ rfl)
    have z4 : w1.cell? ⟨w.heap.size, 4, none⟩ = some (.int .i64 0) := cell_later hb1 (cells_lit w _ _ 4 _ rfl)
    have z5 : w1.cell? ⟨w.heap.size, 5, none⟩ = some (.int .i64 0) := cell_later hb1 (cells_lit w _ _ 5 _ rfl)
    have z6 : w1.cell? ⟨w.heap.size, 6, none⟩ = some (.bool false) := cell_later hb1 (cells_lit w _ _ 6 _ rfl)
    have z7 : w1.cell? ⟨w.heap.size, 7, none⟩ = some (.slice none 0 0) := cell_later hb1 (cells_lit w _ _ 7 _ rfl)
    have hf1 : ∀ o, w1.frozen? ⟨w.heap.size, o, none⟩ = false := fun o => (hb1.frozen (p := ⟨w.heap.size, o, none⟩) (by simp)).trans (by go_simp)
    have B1 := hide hb1
    clear hb1
    go_wp2_with fail
    refine (HFD.out _ HX.out _).mono ?_
    rintro e w2 ⟨rfl, hb2⟩
    replace z0 := cell_later hb2 z0
    replace z1 := cell_later hb2 z1
    replace z2 := cell_later hb2 z2
    replace z3 := cell_later hb2 z3
    replace z4 := cell_later hb2 z4
    replace z5 := cell_later hb2 z5
    replace z6 := cell_later hb2 z6
    replace z7 := cell_later hb2 z7
    have hf2 : ∀ o, w2.frozen? ⟨w.heap.size, o, none⟩ = false := fun o => (hb2.frozen (p := ⟨w.heap.size, o, none⟩) hs1).trans (hf1 o)
    have hs2 : w.heap.size < w2.heap.size := Nat.lt_of_lt_of_le hs1 hb2.size
    have c2 := cell_later hb2 c1
    have f2 := (hb2.frozen (p := ⟨b, 1, none⟩) (World.block_lt_of_cell? _ _ c1)).trans f1
    have B2 := hide (bl_trans B1.out hb2)
    clear hb2 c1 f1 hf1
    go_wp2_with fail
    refine (HNM.out _).mono ?_
    rintro e w3 ⟨v, rfl, hb3, hrw, hfv⟩
    replace z0 := cell_later hb3 z0
    replace z1 := cell_later hb3 z1
    replace z2 := cell_later hb3 z2
    replace z3 := cell_later hb3 z3
    replace z4 := cell_later hb3 z4
    replace z5 := cell_later hb3 z5
    replace z6 := cell_later hb3 z6
    replace z7 := cell_later hb3 z7
    have hf3 : ∀ o, w3.frozen? ⟨w.heap.size, o, none⟩ = false := fun o => (hb3.frozen (p := ⟨w.heap.size, o, none⟩) hs2).trans (hf2 o)
    have hs3 : w.heap.size < w3.heap.size := Nat.lt_of_lt_of_le hs2 hb3.size
    have c3 := cell_later hb3 c2
    have f3 := (hb3.frozen (p := ⟨b, 1, none⟩) (World.block_lt_of_cell? _ _ c2)).trans f2
    have B3 := hide (bl_trans B2.out hb3)
    have HSZ2 := hide hs2
    clear c2 f2 hf2
    obtain ⟨vA, vc, rfl⟩ := rwat_len hrw
    have HRW := hide (rwat_set (o := 1) (u := .int .i64 ((k : Int) + 1)) hrw hfv (World.block_lt_of_cell? _ _ c3 |> fun _ => HLT.out _ B2.out))
    have HFV := hide hfv
    clear hb3 hrw hfv
    go_wp2
    refine bodyPost_ret (v := .tuple #[.agg #[.int .i64 4, .string ⟨#[]⟩, .bool true, .slice vA rS.length vc, .int .i64 0, .int .i64 0, .bool false, .slice none 0 0], .int .i64 0]) ?_ rfl ⟨.mk 4 ⟨#[]⟩ true (.slice vA rS.length vc) rS 0 0 false (.slice none 0 0) [], rfl, (rv8 (HST.out HL0.out _ B3.out) HNB.out (Nat.le_refl _) _ _ _ _ _ _ _ _ _ _ _ _ _ _ _ _), ?_, ?_, ?_⟩
    · rw [results_cell2 rfl]
      go_simp
    · exact .mk _ (rwat_kept HRW.out HFV.out (kept8 _ HSZ2.out _ _ _ _ _ _ _ _ _ _ _ _ _ _ _ _)) (.inl ⟨rfl, rfl⟩) (fun i hi => absurd hi (Nat.not_lt_zero _))
    · exact .mk _ (FrV.mono HFV.out (Nat.le_of_lt HSZ2.out)) (frv0 _) (fun x hx => by cases hx)
    · rw [er_eq]; rfl
  have hr : res = (match escP C with | none => .err 10 | some d => .ok (chX d) (tlC l)) := by
    rw [← ho, ← HC.out]; unfold bakP
    rw [if_neg (fun e => h98 (beq_iff_eq.1 e)), if_neg (fun e => h66 (beq_iff_eq.1 e)), k0, k1, k2, k3, k4, k5]; rfl
  obtain ⟨z, hz⟩ : ∃ z, escP C = z := ⟨_, rfl⟩
  rw [hz] at hr
  subst hr
  have hes := fun W => rescape_any C HSZ z hz W
  unfold EsPost at hes
  have HES := hide hes
  have hCd : C.data.toList = hdC l := by rw [← HC.out, bsC_data]
  have hCz : C.size = (hdC l).length := by rw [← hCd]; exact (Array.length_toList).symm
  have HL9 := hide (show z.isSome = true → l ≠ [] from by
    rintro h1 rfl
    rw [← hz, ← HC.out] at h1
    exact absurd h1 (by decide))
  clear hes hz ho
  by_cases hl1 : (hdC l).length = 1
  · obtain ⟨y, hy⟩ := List.length_eq_one_iff.1 hl1
    have hCe : C = ⟨#[y]⟩ := by rw [← HC.out, hy]; rfl
    have n0 : y ≠ 100 := by rintro rfl; rw [hy] at k0; exact absurd k0 (by decide)
    have n1 : y ≠ 119 := by rintro rfl; rw [hy] at k1; exact absurd k1 (by decide)
    have n2 : y ≠ 115 := by rintro rfl; rw [hy] at k2; exact absurd k2 (by decide)
    have n3 : y ≠ 68 := by rintro rfl; rw [hy] at k3; exact absurd k3 (by decide)
    have n4 : y ≠ 87 := by rintro rfl; rw [hy] at k4; exact absurd k4 (by decide)
    have n5 : y ≠ 83 := by rintro rfl; rw [hy] at k5; exact absurd k5 (by decide)
    obtain ⟨X, hX⟩ : ∃ X, mapS downB C = X := ⟨_, rfl⟩
    have hXe : X = ⟨#[downB y]⟩ := by rw [← hX, hCe]; apply ByteArray.ext; apply Array.ext'; simp [mapS]
    have HX := hide hX
    have hp0 : 0 < X.size := by rw [hXe]; exact Nat.zero_lt_one
    obtain ⟨cn, hcn⟩ : ∃ cn, (downB y).toNat = cn := ⟨_, rfl⟩
    have hxi : ((X[0]'hp0).toNat : Int) = (cn : Int) := by subst hXe; rw [← hcn]; rfl
    have i0 : (0 : Int) < (X.size : Int) := by omega
    have hnb : namB (cn : Int) = false := by
      have m0 : y.toNat ≠ 100 := fun e => n0 (UInt8.toNat_inj.1 e)
      have m1 : y.toNat ≠ 119 := fun e => n1 (UInt8.toNat_inj.1 e)
      have m2 : y.toNat ≠ 115 := fun e => n2 (UInt8.toNat_inj.1 e)
      have m3 : y.toNat ≠ 68 := fun e => n3 (UInt8.toNat_inj.1 e)
      have m4 : y.toNat ≠ 87 := fun e => n4 (UInt8.toNat_inj.1 e)
      have m5 : y.toNat ≠ 83 := fun e => n5 (UInt8.toNat_inj.1 e)
      have hdn := downB_nat y
      unfold namB; rw [decide_eq_false_iff_not]
      rw [hcn] at hdn
      split at hdn <;> omega
    have hnm := fun W => rnamf_any (cn : Int) W
    rw [hnb] at hnm
    unfold NmfPost at hnm
    have HNM := hide hnm
    have hC1 : C.size = 1 := by omega
    have gs : ((C.size : Int) == 1) = true := by rw [hC1]; rfl
    have gs' : (C.size == 1) = true := by rw [hC1]; rfl
    clear hnm hnb hcn hXe hX hCe hy hl1 hC1 hCz hCd h98 h66 HSZ n0 n1 n2 n3 n4 n5 k0 k1 k2 k3 k4 k5
    rcases z with _ | d
    · have HZ0 := ()
      go_enter Try.func67, Try.ntmps67
      go_wp2_with fail
      refine HSEE.out.mono ?_
      rintro e w1 ⟨rfl, hb1, c1, f1⟩
      have hs1 : w.heap.size < w1.heap.size := by have := hb1.size; simp at this; omega
      have z0 : w1.cell? ⟨w.heap.size, 0, none⟩ = some (.int .i64 0) := cell_later hb1 (cells_lit w _ _ 0 _ rfl)
      have z1 : w1.cell? ⟨w.heap.size, 1, none⟩ = some (.string ⟨#[]⟩) := cell_later hb1 (cells_lit w _ _ 1 _ rfl)
      have z2 : w1.cell? ⟨w.heap.size, 2, none⟩ = some (.bool false) := cell_later hb1 (cells_lit w _ _ 2 _ rfl)
      have z3 : w1.cell? ⟨w.heap.size, 3, none⟩ = some (.slice none 0 0) := cell_later hb1 (cells_lit w _ _ 3 _ rfl)
      have z4 : w1.cell? ⟨w.heap.size, 4, none⟩ = some (.int .i64 0) := cell_later hb1 (cells_lit w _ _ 4 _ rfl)
      have z5 : w1.cell? ⟨w.heap.size, 5, none⟩ = some (.int .i64 0) := cell_later hb1 (cells_lit w _ _ 5 _ rfl)
      have z6 : w1.cell? ⟨w.heap.size, 6, none⟩ = some (.bool false) := cell_later hb1 (cells_lit w _ _ 6 _ rfl)
      have z7 : w1.cell? ⟨w.heap.size, 7, none⟩ = some (.slice none 0 0) := cell_later hb1 (cells_lit w _ _ 7 _ rfl)
      have hf1 : ∀ o, w1.frozen? ⟨w.heap.size, o, none⟩ = false := fun o => (hb1.frozen (p := ⟨w.heap.size, o, none⟩) (by simp)).trans (by go_simp)
      have B1 := hide hb1
      clear hb1
      go_wp2_with fail
      refine (HFD.out _ HX.out _).mono ?_
      rintro e w2 ⟨rfl, hb2⟩
      replace z0 := cell_later hb2 z0
      replace z1 := cell_later hb2 z1
      replace z2 := cell_later hb2 z2
      replace z3 := cell_later hb2 z3
      replace z4 := cell_later hb2 z4
      replace z5 := cell_later hb2 z5
      replace z6 := cell_later hb2 z6
      replace z7 := cell_later hb2 z7
      have hf2 : ∀ o, w2.frozen? ⟨w.heap.size, o, none⟩ = false := fun o => (hb2.frozen (p := ⟨w.heap.size, o, none⟩) hs1).trans (hf1 o)
      have hs2 : w.heap.size < w2.heap.size := Nat.lt_of_lt_of_le hs1 hb2.size
      have c2 := cell_later hb2 c1
      have f2 := (hb2.frozen (p := ⟨b, 1, none⟩) (World.block_lt_of_cell? _ _ c1)).trans f1
      have B2 := hide (bl_trans B1.out hb2)
      clear hb2 c1 f1 hf1
      go_wp2_with fail
      refine (HNM.out _).mono ?_
      rintro e w3 ⟨v, rfl, hb3, hrw, hfv⟩
      replace z0 := cell_later hb3 z0
      replace z1 := cell_later hb3 z1
      replace z2 := cell_later hb3 z2
      replace z3 := cell_later hb3 z3
      replace z4 := cell_later hb3 z4
      replace z5 := cell_later hb3 z5
      replace z6 := cell_later hb3 z6
      replace z7 := cell_later hb3 z7
      have hf3 : ∀ o, w3.frozen? ⟨w.heap.size, o, none⟩ = false := fun o => (hb3.frozen (p := ⟨w.heap.size, o, none⟩) hs2).trans (hf2 o)
      have hs3 : w.heap.size < w3.heap.size := Nat.lt_of_lt_of_le hs2 hb3.size
      have c3 := cell_later hb3 c2
      have f3 := (hb3.frozen (p := ⟨b, 1, none⟩) (World.block_lt_of_cell? _ _ c2)).trans f2
      have B3 := hide (bl_trans B2.out hb3)
      have HSZ2 := hide hs2
      clear c2 f2 hf2
      clear hb3 hrw hfv
      go_wp2_with fail
      refine (HES.out _).mono ?_
      rintro e w5 ⟨rfl, rfl⟩
      go_wp2
      refine bodyPost_ret (v := .tuple #[.agg #[.int .i64 0, .string ⟨#[]⟩, .bool false, .slice none 0 0, .int .i64 0, .int .i64 0, .bool false, .slice none 0 0], .int .i64 10]) ?_ rfl ⟨rfl, _, (mvd8 (HSL.out _ B3.out).1 HNB.out (Nat.le_refl _) _ _ _ _ _ _ _ _ _ _ _ _ _ _ _ _)⟩
      rw [results_cell2 rfl]
      go_simp
    · have HL0 := hide (HL9.out rfl)
      go_enter Try.func67, Try.ntmps67
      go_wp2_with fail
      refine HSEE.out.mono ?_
      rintro e w1 ⟨rfl, hb1, c1, f1⟩
      have hs1 : w.heap.size < w1.heap.size := by have := hb1.size; simp at this; omega
      have z0 : w1.cell? ⟨w.heap.size, 0, none⟩ = some (.int .i64 0) := cell_later hb1 (cells_lit w _ _ 0 _ rfl)
      have z1 : w1.cell? ⟨w.heap.size, 1, none⟩ = some (.string ⟨#[]⟩) := cell_later hb1 (cells_lit w _ _ 1 _ rfl)
      have z2 : w1.cell? ⟨w.heap.size, 2, none⟩ = some (.bool false) := cell_later hb1 (cells_lit w _ _ 2 _ rfl)
      have z3 : w1.cell? ⟨w.heap.size, 3, none⟩ = some (.slice none 0 0) := cell_later hb1 (cells_lit w _ _ 3 _ rfl)
      have z4 : w1.cell? ⟨w.heap.size, 4, none⟩ = some (.int .i64 0) := cell_later hb1 (cells_lit w _ _ 4 _ rfl)
      have z5 : w1.cell? ⟨w.heap.size, 5, none⟩ = some (.int .i64 0) := cell_later hb1 (cells_lit w _ _ 5 _ rfl)
      have z6 : w1.cell? ⟨w.heap.size, 6, none⟩ = some (.bool false) := cell_later hb1 (cells_lit w _ _ 6 _ rfl)
      have z7 : w1.cell? ⟨w.heap.size, 7, none⟩ = some (.slice none 0 0) := cell_later hb1 (cells_lit w _ _ 7 _ rfl)
      have hf1 : ∀ o, w1.frozen? ⟨w.heap.size, o, none⟩ = false := fun o => (hb1.frozen (p := ⟨w.heap.size, o, none⟩) (by simp)).trans (by go_simp)
      have B1 := hide hb1
      clear hb1
      go_wp2_with fail
      refine (HFD.out _ HX.out _).mono ?_
      rintro e w2 ⟨rfl, hb2⟩
      replace z0 := cell_later hb2 z0
      replace z1 := cell_later hb2 z1
      replace z2 := cell_later hb2 z2
      replace z3 := cell_later hb2 z3
      replace z4 := cell_later hb2 z4
      replace z5 := cell_later hb2 z5
      replace z6 := cell_later hb2 z6
      replace z7 := cell_later hb2 z7
      have hf2 : ∀ o, w2.frozen? ⟨w.heap.size, o, none⟩ = false := fun o => (hb2.frozen (p := ⟨w.heap.size, o, none⟩) hs1).trans (hf1 o)
      have hs2 : w.heap.size < w2.heap.size := Nat.lt_of_lt_of_le hs1 hb2.size
      have c2 := cell_later hb2 c1
      have f2 := (hb2.frozen (p := ⟨b, 1, none⟩) (World.block_lt_of_cell? _ _ c1)).trans f1
      have B2 := hide (bl_trans B1.out hb2)
      clear hb2 c1 f1 hf1
      go_wp2_with fail
      refine (HNM.out _).mono ?_
      rintro e w3 ⟨v, rfl, hb3, hrw, hfv⟩
      replace z0 := cell_later hb3 z0
      replace z1 := cell_later hb3 z1
      replace z2 := cell_later hb3 z2
      replace z3 := cell_later hb3 z3
      replace z4 := cell_later hb3 z4
      replace z5 := cell_later hb3 z5
      replace z6 := cell_later hb3 z6
      replace z7 := cell_later hb3 z7
      have hf3 : ∀ o, w3.frozen? ⟨w.heap.size, o, none⟩ = false := fun o => (hb3.frozen (p := ⟨w.heap.size, o, none⟩) hs2).trans (hf2 o)
      have hs3 : w.heap.size < w3.heap.size := Nat.lt_of_lt_of_le hs2 hb3.size
      have c3 := cell_later hb3 c2
      have f3 := (hb3.frozen (p := ⟨b, 1, none⟩) (World.block_lt_of_cell? _ _ c2)).trans f2
      have B3 := hide (bl_trans B2.out hb3)
      have HSZ2 := hide hs2
      clear c2 f2 hf2
      clear hb3 hrw hfv
      go_wp2_with fail
      refine (HES.out _).mono ?_
      rintro e w5 ⟨rfl, rfl⟩
      go_wp2
      refine bodyPost_ret (v := .tuple #[.agg #[.int .i64 2, .string d, .bool false, .slice none 0 0, .int .i64 0, .int .i64 0, .bool false, .slice none 0 0], .int .i64 0]) ?_ rfl ⟨chX d, rfl, (rv8 (HST.out HL0.out _ B3.out) HNB.out (Nat.le_refl _) _ _ _ _ _ _ _ _ _ _ _ _ _ _ _ _), rx_leaf _ _ rfl rfl rfl rfl, fr_leaf _ _ rfl rfl rfl, rfl⟩
      rw [results_cell2 rfl]
      go_simp
  · obtain ⟨X, hX⟩ : ∃ X, mapS downB C = X := ⟨_, rfl⟩
    have HX := hide hX
    have gs : ((C.size : Int) == 1) = false := by rw [Bool.eq_false_iff]; intro h1; apply hl1; rw [← hCz]; have := beq_iff_eq.1 h1; omega
    have gs' : (C.size == 1) = false := by rw [Bool.eq_false_iff]; intro h1; apply hl1; rw [← hCz]; have := beq_iff_eq.1 h1; omega
    clear hX hl1 hCz hCd h98 h66 HSZ k0 k1 k2 k3 k4 k5
    rcases z with _ | d
    · have HZ0 := ()
      go_enter Try.func67, Try.ntmps67
      go_wp2_with fail
      refine HSEE.out.mono ?_
      rintro e w1 ⟨rfl, hb1, c1, f1⟩
      have hs1 : w.heap.size < w1.heap.size := by have := hb1.size; simp at this; omega
      have z0 : w1.cell? ⟨w.heap.size, 0, none⟩ = some (.int .i64 0) := cell_later hb1 (cells_lit w _ _ 0 _ rfl)
      have z1 : w1.cell? ⟨w.heap.size, 1, none⟩ = some (.string ⟨#[]⟩) := cell_later hb1 (cells_lit w _ _ 1 _ rfl)
      have z2 : w1.cell? ⟨w.heap.size, 2, none⟩ = some (.bool false) := cell_later hb1 (cells_lit w _ _ 2 _ rfl)
      have z3 : w1.cell? ⟨w.heap.size, 3, none⟩ = some (.slice none 0 0) := cell_later hb1 (cells_lit w _ _ 3 _ rfl)
      have z4 : w1.cell? ⟨w.heap.size, 4, none⟩ = some (.int .i64 0) := cell_later hb1 (cells_lit w _ _ 4 _ rfl)
      have z5 : w1.cell? ⟨w.heap.size, 5, none⟩ = some (.int .i64 0) := cell_later hb1 (cells_lit w _ _ 5 _ rfl)
      have z6 : w1.cell? ⟨w.heap.size, 6, none⟩ = some (.bool false) := cell_later hb1 (cells_lit w _ _ 6 _ rfl)
      have z7 : w1.cell? ⟨w.heap.size, 7, none⟩ = some (.slice none 0 0) := cell_later hb1 (cells_lit w _ _ 7 _ rfl)
      have hf1 : ∀ o, w1.frozen? ⟨w.heap.size, o, none⟩ = false := fun o => (hb1.frozen (p := ⟨w.heap.size, o, none⟩) (by simp)).trans (by go_simp)
      have B1 := hide hb1
      clear hb1
      go_wp2_with fail
      refine (HFD.out _ HX.out _).mono ?_
      rintro e w2 ⟨rfl, hb2⟩
      replace z0 := cell_later hb2 z0
      replace z1 := cell_later hb2 z1
      replace z2 := cell_later hb2 z2
      replace z3 := cell_later hb2 z3
      replace z4 := cell_later hb2 z4
      replace z5 := cell_later hb2 z5
      replace z6 := cell_later hb2 z6
      replace z7 := cell_later hb2 z7
      have hf2 : ∀ o, w2.frozen? ⟨w.heap.size, o, none⟩ = false := fun o => (hb2.frozen (p := ⟨w.heap.size, o, none⟩) hs1).trans (hf1 o)
      have hs2 : w.heap.size < w2.heap.size := Nat.lt_of_lt_of_le hs1 hb2.size
      have c2 := cell_later hb2 c1
      have f2 := (hb2.frozen (p := ⟨b, 1, none⟩) (World.block_lt_of_cell? _ _ c1)).trans f1
      have B2 := hide (bl_trans B1.out hb2)
      clear hb2 c1 f1 hf1
      go_wp2_with fail
      refine (HES.out _).mono ?_
      rintro e w5 ⟨rfl, rfl⟩
      go_wp2
      refine bodyPost_ret (v := .tuple #[.agg #[.int .i64 0, .string ⟨#[]⟩, .bool false, .slice none 0 0, .int .i64 0, .int .i64 0, .bool false, .slice none 0 0], .int .i64 10]) ?_ rfl ⟨rfl, _, (mvd8 (HSL.out _ B2.out).1 HNB.out (Nat.le_refl _) _ _ _ _ _ _ _ _ _ _ _ _ _ _ _ _)⟩
      rw [results_cell2 rfl]
      go_simp
    · have HL0 := hide (HL9.out rfl)
      go_enter Try.func67, Try.ntmps67
      go_wp2_with fail
      refine HSEE.out.mono ?_
      rintro e w1 ⟨rfl, hb1, c1, f1⟩
      have hs1 : w.heap.size < w1.heap.size := by have := hb1.size; simp at this; omega
      have z0 : w1.cell? ⟨w.heap.size, 0, none⟩ = some (.int .i64 0) := cell_later hb1 (cells_lit w _ _ 0 _ rfl)
      have z1 : w1.cell? ⟨w.heap.size, 1, none⟩ = some (.string ⟨#[]⟩) := cell_later hb1 (cells_lit w _ _ 1 _ rfl)
      have z2 : w1.cell? ⟨w.heap.size, 2, none⟩ = some (.bool false) := cell_later hb1 (cells_lit w _ _ 2 _ rfl)
      have z3 : w1.cell? ⟨w.heap.size, 3, none⟩ = some (.slice none 0 0) := cell_later hb1 (cells_lit w _ _ 3 _ rfl)
      have z4 : w1.cell? ⟨w.heap.size, 4, none⟩ = some (.int .i64 0) := cell_later hb1 (cells_lit w _ _ 4 _ rfl)
      have z5 : w1.cell? ⟨w.heap.size, 5, none⟩ = some (.int .i64 0) := cell_later hb1 (cells_lit w _ _ 5 _ rfl)
      have z6 : w1.cell? ⟨w.heap.size, 6, none⟩ = some (.bool false) := cell_later hb1 (cells_lit w _ _ 6 _ rfl)
      have z7 : w1.cell? ⟨w.heap.size, 7, none⟩ = some (.slice none 0 0) := cell_later hb1 (cells_lit w _ _ 7 _ rfl)
      have hf1 : ∀ o, w1.frozen? ⟨w.heap.size, o, none⟩ = false := fun o => (hb1.frozen (p := ⟨w.heap.size, o, none⟩) (by simp)).trans (by go_simp)
      have B1 := hide hb1
      clear hb1
      go_wp2_with fail
      refine (HFD.out _ HX.out _).mono ?_
      rintro e w2 ⟨rfl, hb2⟩
      replace z0 := cell_later hb2 z0
      replace z1 := cell_later hb2 z1
      replace z2 := cell_later hb2 z2
      replace z3 := cell_later hb2 z3
      replace z4 := cell_later hb2 z4
      replace z5 := cell_later hb2 z5
      replace z6 := cell_later hb2 z6
      replace z7 := cell_later hb2 z7
      have hf2 : ∀ o, w2.frozen? ⟨w.heap.size, o, none⟩ = false := fun o => (hb2.frozen (p := ⟨w.heap.size, o, none⟩) hs1).trans (hf1 o)
      have hs2 : w.heap.size < w2.heap.size := Nat.lt_of_lt_of_le hs1 hb2.size
      have c2 := cell_later hb2 c1
      have f2 := (hb2.frozen (p := ⟨b, 1, none⟩) (World.block_lt_of_cell? _ _ c1)).trans f1
      have B2 := hide (bl_trans B1.out hb2)
      clear hb2 c1 f1 hf1
      go_wp2_with fail
      refine (HES.out _).mono ?_
      rintro e w5 ⟨rfl, rfl⟩
      go_wp2
      refine bodyPost_ret (v := .tuple #[.agg #[.int .i64 2, .string d, .bool false, .slice none 0 0, .int .i64 0, .int .i64 0, .bool false, .slice none 0 0], .int .i64 0]) ?_ rfl ⟨chX d, rfl, (rv8 (HST.out HL0.out _ B2.out) HNB.out (Nat.le_refl _) _ _ _ _ _ _ _ _ _ _ _ _ _ _ _ _), rx_leaf _ _ rfl rfl rfl rfl, fr_leaf _ _ rfl rfl rfl, rfl⟩
      rw [results_cell2 rfl]
      go_simp
end
section
open SetM
set_option linter.unusedVariables false
theorem numR_succ : ∀ (f n k : Nat) (l : List UInt8), numR (f + 1) n k l = numR f n k l ∨ ((∃ y, hdC (numR f n k l).2.2 = [y] ∧ digZ y.toNat = true) ∧ (numR (f + 1) n k l).2.1 = k + f + 1)
  | 0, n, k, l => by
    rw [show numR 0 n k l = (n, k, l) from rfl, numR]
    split
    · rename_i y hy
      split
      · rename_i hd
        exact .inr ⟨⟨y, hy, hd⟩, rfl⟩
      · exact .inl rfl
    · exact .inl rfl
  | f + 1, n, k, l => by
    rw [numR, numR]
    split
    · rename_i y hy
      split
      · rename_i hd
        rcases numR_succ f (n * 10 + (y.toNat - 48)) (k + 1) (tlC l) with h | ⟨h1, h2⟩
        · exact .inl h
        · exact .inr ⟨h1, by rw [h2]; omega⟩
      · exact .inl rfl
    · exact .inl rfl
theorem numR_34 (l : List UInt8) : numR 4 0 0 l = numR 3 0 0 l ∨ (numOk (numR 4 0 0 l).1 (numR 4 0 0 l).2.1 = false ∧ ∃ y, hdC (numR 3 0 0 l).2.2 = [y] ∧ digZ y.toNat = true) := by
  rcases numR_succ 3 0 0 l with h | ⟨h1, h2⟩
  · exact .inl h
  · exact .inr ⟨by rw [h2]; simp [numOk], h1⟩
/-- The bounds in braces, three digits at most. -/
def bndQ (l : List UInt8) : Option (Nat × Int × List UInt8) :=
  let z := numR 3 0 0 l
  if numOk z.1 z.2.1 = true then
    if (hdC z.2.2 == [44]) = true then
      if (hdC (tlC z.2.2) == [125]) = true then some (z.1, -1, tlC (tlC z.2.2))
      else
        let y := numR 3 0 0 (tlC z.2.2)
        if (numOk y.1 y.2.1 && (hdC y.2.2 == [125] && decide (z.1 ≤ y.1))) = true then some (z.1, (y.1 : Int), tlC y.2.2) else none
    else if (hdC z.2.2 == [125]) = true then some (z.1, (z.1 : Int), tlC z.2.2) else none
  else none
theorem dig_not {y : UInt8} (h : digZ y.toNat = true) : (([y] : List UInt8) == [44]) = false ∧ (([y] : List UInt8) == [125]) = false := by
  constructor
  · rw [Bool.eq_false_iff]; intro e
    have : y = 44 := by simpa using e
    subst this; exact absurd h (by decide)
  · rw [Bool.eq_false_iff]; intro e
    have : y = 125 := by simpa using e
    subst this; exact absurd h (by decide)
theorem bndP_Q (l : List UInt8) : bndP l = bndQ l := by
  unfold bndP bndQ
  simp only
  rcases numR_34 l with h | ⟨h1, y, h2, h3⟩
  · rw [h]
    obtain ⟨z, hz⟩ : ∃ z, numR 3 0 0 l = z := ⟨_, rfl⟩
    rw [hz]
    split
    · split
      · split
        · rfl
        · rcases numR_34 (tlC z.2.2) with g | ⟨g1, y, g2, g3⟩
          · rw [g]
          · rw [g1, g2, (dig_not g3).2, if_neg (by simp), if_neg (by simp)]
      · rfl
    · rfl
  · rw [h1, h2, (dig_not h3).1, (dig_not h3).2, if_neg (by decide)]
    split <;> rfl
end
section
open Go.ChangeShapes Go.WideShapes Go.ChangeAt Go.RowKit
open SetM
attribute [local go_sem ↓] Go.wp_at_zero Go.wp_at_succ
set_option maxRecDepth 100000
set_option linter.unusedVariables false
attribute [local go_sem] later_cell later_frozen
def RrPostN (N : Nat) (w : World) (b : Nat) (zs : List ByteArray) : Res → Ending → World → Prop
  | .no, _, _ => False
  | .err n, e, w' => e = .returned (.tuple #[rt0.v, .int .i64 n]) ∧ ∃ k, Mvd w w' b 0 k
  | .ok x r, e, w' => ∃ t, e = .returned (.tuple #[t.v, .int .i64 0]) ∧ Rv w w' b zs r ∧ RxAt w' t ∧ Fr N t ∧ er t = x
theorem Rv.put {w w1 : World} {b g : Nat} {zs : List ByteArray} {l : List UInt8} (h : Rv w w1 b zs l) (hb : g ≠ b) (hw : w.heap.size ≤ g) (o : Nat) (u : Value) : Rv w (w1.setCell ⟨g, o, none⟩ u) b zs l := ⟨h.1.put hb hw o u, h.2⟩
theorem rv_kept {w w' : World} {b N : Nat} {zs : List ByteArray} {l : List UInt8} (h : Rv w w' b zs l) (hb : b < N) : Kept N w w' := fun p v hp hc => h.1.cell hc (by omega)
theorem set_at {W : World} {g o : Nat} {u v : Value} (h : W.cell? ⟨g, o, none⟩ = some u) : (W.setCell ⟨g, o, none⟩ v).cell? ⟨g, o, none⟩ = some v := World.cell?_setCell_same _ _ _ h
theorem set_off {W : World} {g o j : Nat} {u v : Value} (h : W.cell? ⟨g, j, none⟩ = some u) (hn : o ≠ j) : (W.setCell ⟨g, o, none⟩ v).cell? ⟨g, j, none⟩ = some u := by
  rw [World.cell?_setCell_other _ _ _ _ (fun e => hn (by injection e))]; exact h
theorem set8 {W : World} {n g j : Nat} {u : Value} {o0 o1 o2 o3 o4 o5 o6 o7 : Nat} {u0 u1 u2 u3 u4 u5 u6 u7 : Value} (h : W.cell? ⟨n, j, none⟩ = some u) (hn : g ≠ n) :
    ((((((((W.setCell ⟨g, o0, none⟩ u0).setCell ⟨g, o1, none⟩ u1).setCell ⟨g, o2, none⟩ u2).setCell ⟨g, o3, none⟩ u3).setCell ⟨g, o4, none⟩ u4).setCell ⟨g, o5, none⟩ u5).setCell ⟨g, o6, none⟩ u6).setCell ⟨g, o7, none⟩ u7).cell? ⟨n, j, none⟩ = some u :=
  set_blk (set_blk (set_blk (set_blk (set_blk (set_blk (set_blk (set_blk h hn) hn) hn) hn) hn) hn) hn) hn
theorem rrep_end {N : Nat} {w W : World} {b g : Nat} {zs : List ByteArray} {r : List UInt8} {t : Rt} {mi ma : Int} {lz : Bool} (hm : Rv w W b zs r) (hb : b < N) (hN : N ≤ w.heap.size) (ht : RxAt w t) (hf : Fr N t) (hg : N ≤ g) (hc : ∀ j u, t.cs[j]? = some u → W.cell? ⟨g, j, none⟩ = some u) :
    RrPostN N w b zs (.ok (repX mi ma lz (er t)) r) (.returned (.tuple #[.agg #[.int .i64 7, .string ⟨#[]⟩, .bool false, .slice none 0 0, .int .i64 mi, .int .i64 ma, .bool lz, .slice (some ⟨g, 0, none⟩) 1 1], .int .i64 0])) W := by
  refine ⟨.mk 7 ⟨#[]⟩ false (.slice none 0 0) [] mi ma lz (.slice (some ⟨g, 0, none⟩) 1 1) [t], rfl, hm, .mk _ (.inl ⟨rfl, rfl⟩) (ks1 hc) (fun i hi => ?_), .mk _ (frv0 _) (fun x len c e => ?_) (fun x hx => ?_), ?_⟩
  · have : i = 0 := by have : i < 1 := hi; omega
    subst this
    exact rx_kept ht hf (rv_kept hm hb)
  · injection e with e; injection e with e; subst e; exact hg
  · have : x = t := by simpa using (show x ∈ [t] from hx)
    subst this; exact hf
  · rw [er_eq]; rfl
set_option maxHeartbeats 16000000 in
theorem rtimes_one {w : World} {b N : Nat} {A : Option Addr} {c : Nat} {zs : List ByteArray} {l : List UInt8} (h : Rp w b A c zs l) (hbN : b < N) (hN : N ≤ w.heap.size) (t : Rt) (ht : RxAt w t) (hf : Fr N t) (h123 : (hdC l == [123]) = false) (res : Res) (ho : qntP (er t) l = res) :
    Calls Try.prog 65 #[.pointer (some ⟨b, 0, none⟩), t.v] w (RrPostN N w b zs res) := by
  obtain ⟨tA, tc, htrv⟩ := rwat_len ht.rows
  obtain ⟨tB, td, htkv⟩ := ksat_len ht.ks
  have HCS := hide (show t.cs = [.int .i64 t.k, .string t.ch, .bool t.nt, .slice tA t.rows.length tc, .int .i64 t.mi, .int .i64 t.ma, .bool t.lz, .slice tB t.kids.length td] by unfold Rt.cs; rw [htrv, htkv])
  have HTV := hide (show t.v = .agg #[.int .i64 t.k, .string t.ch, .bool t.nt, .slice tA t.rows.length tc, .int .i64 t.mi, .int .i64 t.ma, .bool t.lz, .slice tB t.kids.length td] by unfold Rt.v Rt.cs; rw [htrv, htkv])
  rw [HTV.out]
  have hbl := h.lt
  have HS := hide h
  have HBN := hide hbN
  have HN := hide hN
  have HT := hide ht
  have HF := hide hf
  have HBL := hide (show Below w.heap.size w ((((w.alloc (.cells #[.int .i64 t.k, .string t.ch, .bool t.nt, .slice tA t.rows.length tc, .int .i64 t.mi, .int .i64 t.ma, .bool t.lz, .slice tB t.kids.length td] 25)).alloc (.cells #[.int .i64 0, .string ⟨#[]⟩, .bool false, .slice none 0 0, .int .i64 0, .int .i64 0, .bool false, .slice none 0 0] 25)).alloc (.cells #[.int .i64 t.k, .string t.ch, .bool t.nt, .slice tA t.rows.length tc, .int .i64 t.mi, .int .i64 t.ma, .bool t.lz, .slice tB t.kids.length td] 25)).alloc (.cells #[.int .i64 7, .string ⟨#[]⟩, .bool false, .slice none 0 0, .int .i64 (0), .int .i64 (-1), .bool false, .slice (some ⟨w.heap.size + 1 + 1, 0, none⟩) 1 1] 25)) from bl_alloc (bl_alloc (bl_alloc (bl_alloc (bl_refl w) _) _) _) _)
  have HP0 := hide (h.bl HBL.out)
  have HX0 := hide (show ∀ j u, ([.int .i64 t.k, .string t.ch, .bool t.nt, .slice tA t.rows.length tc, .int .i64 t.mi, .int .i64 t.ma, .bool t.lz, .slice tB t.kids.length td] : List Value)[j]? = some u → ((((w.alloc (.cells #[.int .i64 t.k, .string t.ch, .bool t.nt, .slice tA t.rows.length tc, .int .i64 t.mi, .int .i64 t.ma, .bool t.lz, .slice tB t.kids.length td] 25)).alloc (.cells #[.int .i64 0, .string ⟨#[]⟩, .bool false, .slice none 0 0, .int .i64 0, .int .i64 0, .bool false, .slice none 0 0] 25)).alloc (.cells #[.int .i64 t.k, .string t.ch, .bool t.nt, .slice tA t.rows.length tc, .int .i64 t.mi, .int .i64 t.ma, .bool t.lz, .slice tB t.kids.length td] 25)).alloc (.cells #[.int .i64 7, .string ⟨#[]⟩, .bool false, .slice none 0 0, .int .i64 (0), .int .i64 (-1), .bool false, .slice (some ⟨w.heap.size + 1 + 1, 0, none⟩) 1 1] 25)).cell? ⟨w.heap.size, j, none⟩ = some u from fun j u hu => by
    have := cell_later (bl_alloc (bl_alloc (bl_alloc (bl_refl (w.alloc (.cells #[.int .i64 t.k, .string t.ch, .bool t.nt, .slice tA t.rows.length tc, .int .i64 t.mi, .int .i64 t.ma, .bool t.lz, .slice tB t.kids.length td] 25))) (.cells #[.int .i64 0, .string ⟨#[]⟩, .bool false, .slice none 0 0, .int .i64 0, .int .i64 0, .bool false, .slice none 0 0] 25)) (.cells #[.int .i64 t.k, .string t.ch, .bool t.nt, .slice tA t.rows.length tc, .int .i64 t.mi, .int .i64 t.ma, .bool t.lz, .slice tB t.kids.length td] 25)) (.cells #[.int .i64 7, .string ⟨#[]⟩, .bool false, .slice none 0 0, .int .i64 (0), .int .i64 (-1), .bool false, .slice (some ⟨w.heap.size + 1 + 1, 0, none⟩) 1 1] 25)) (cells_lit w #[.int .i64 t.k, .string t.ch, .bool t.nt, .slice tA t.rows.length tc, .int .i64 t.mi, .int .i64 t.ma, .bool t.lz, .slice tB t.kids.length td] 25 j u hu)
    rw [addr_add, Nat.zero_add] at this
    exact this)
  have HZ0 := hide (show ∀ j u, ([.int .i64 0, .string ⟨#[]⟩, .bool false, .slice none 0 0, .int .i64 0, .int .i64 0, .bool false, .slice none 0 0] : List Value)[j]? = some u → ((((w.alloc (.cells #[.int .i64 t.k, .string t.ch, .bool t.nt, .slice tA t.rows.length tc, .int .i64 t.mi, .int .i64 t.ma, .bool t.lz, .slice tB t.kids.length td] 25)).alloc (.cells #[.int .i64 0, .string ⟨#[]⟩, .bool false, .slice none 0 0, .int .i64 0, .int .i64 0, .bool false, .slice none 0 0] 25)).alloc (.cells #[.int .i64 t.k, .string t.ch, .bool t.nt, .slice tA t.rows.length tc, .int .i64 t.mi, .int .i64 t.ma, .bool t.lz, .slice tB t.kids.length td] 25)).alloc (.cells #[.int .i64 7, .string ⟨#[]⟩, .bool false, .slice none 0 0, .int .i64 (0), .int .i64 (-1), .bool false, .slice (some ⟨w.heap.size + 1 + 1, 0, none⟩) 1 1] 25)).cell? ⟨w.heap.size + 1, j, none⟩ = some u from fun j u hu => by
    have := cell_later (bl_alloc (bl_alloc (bl_refl ((w.alloc (.cells #[.int .i64 t.k, .string t.ch, .bool t.nt, .slice tA t.rows.length tc, .int .i64 t.mi, .int .i64 t.ma, .bool t.lz, .slice tB t.kids.length td] 25)).alloc (.cells #[.int .i64 0, .string ⟨#[]⟩, .bool false, .slice none 0 0, .int .i64 0, .int .i64 0, .bool false, .slice none 0 0] 25))) (.cells #[.int .i64 t.k, .string t.ch, .bool t.nt, .slice tA t.rows.length tc, .int .i64 t.mi, .int .i64 t.ma, .bool t.lz, .slice tB t.kids.length td] 25)) (.cells #[.int .i64 7, .string ⟨#[]⟩, .bool false, .slice none 0 0, .int .i64 (0), .int .i64 (-1), .bool false, .slice (some ⟨w.heap.size + 1 + 1, 0, none⟩) 1 1] 25)) (cells_lit (w.alloc (.cells #[.int .i64 t.k, .string t.ch, .bool t.nt, .slice tA t.rows.length tc, .int .i64 t.mi, .int .i64 t.ma, .bool t.lz, .slice tB t.kids.length td] 25)) #[.int .i64 0, .string ⟨#[]⟩, .bool false, .slice none 0 0, .int .i64 0, .int .i64 0, .bool false, .slice none 0 0] 25 j u hu)
    rw [addr_add, Nat.zero_add] at this
    simpa using this)
  have HK0 := hide (show ∀ j u, ([.int .i64 t.k, .string t.ch, .bool t.nt, .slice tA t.rows.length tc, .int .i64 t.mi, .int .i64 t.ma, .bool t.lz, .slice tB t.kids.length td] : List Value)[j]? = some u → ((((w.alloc (.cells #[.int .i64 t.k, .string t.ch, .bool t.nt, .slice tA t.rows.length tc, .int .i64 t.mi, .int .i64 t.ma, .bool t.lz, .slice tB t.kids.length td] 25)).alloc (.cells #[.int .i64 0, .string ⟨#[]⟩, .bool false, .slice none 0 0, .int .i64 0, .int .i64 0, .bool false, .slice none 0 0] 25)).alloc (.cells #[.int .i64 t.k, .string t.ch, .bool t.nt, .slice tA t.rows.length tc, .int .i64 t.mi, .int .i64 t.ma, .bool t.lz, .slice tB t.kids.length td] 25)).alloc (.cells #[.int .i64 7, .string ⟨#[]⟩, .bool false, .slice none 0 0, .int .i64 (0), .int .i64 (-1), .bool false, .slice (some ⟨w.heap.size + 1 + 1, 0, none⟩) 1 1] 25)).cell? ⟨w.heap.size + 1 + 1, j, none⟩ = some u from fun j u hu => by
    have := cell_later (bl_alloc (bl_refl (((w.alloc (.cells #[.int .i64 t.k, .string t.ch, .bool t.nt, .slice tA t.rows.length tc, .int .i64 t.mi, .int .i64 t.ma, .bool t.lz, .slice tB t.kids.length td] 25)).alloc (.cells #[.int .i64 0, .string ⟨#[]⟩, .bool false, .slice none 0 0, .int .i64 0, .int .i64 0, .bool false, .slice none 0 0] 25)).alloc (.cells #[.int .i64 t.k, .string t.ch, .bool t.nt, .slice tA t.rows.length tc, .int .i64 t.mi, .int .i64 t.ma, .bool t.lz, .slice tB t.kids.length td] 25))) (.cells #[.int .i64 7, .string ⟨#[]⟩, .bool false, .slice none 0 0, .int .i64 (0), .int .i64 (-1), .bool false, .slice (some ⟨w.heap.size + 1 + 1, 0, none⟩) 1 1] 25)) (cells_lit ((w.alloc (.cells #[.int .i64 t.k, .string t.ch, .bool t.nt, .slice tA t.rows.length tc, .int .i64 t.mi, .int .i64 t.ma, .bool t.lz, .slice tB t.kids.length td] 25)).alloc (.cells #[.int .i64 0, .string ⟨#[]⟩, .bool false, .slice none 0 0, .int .i64 0, .int .i64 0, .bool false, .slice none 0 0] 25)) #[.int .i64 t.k, .string t.ch, .bool t.nt, .slice tA t.rows.length tc, .int .i64 t.mi, .int .i64 t.ma, .bool t.lz, .slice tB t.kids.length td] 25 j u hu)
    rw [addr_add, Nat.zero_add] at this
    simpa using this)
  have HY0 := hide (show ∀ j u, ([.int .i64 7, .string ⟨#[]⟩, .bool false, .slice none 0 0, .int .i64 (0), .int .i64 (-1), .bool false, .slice (some ⟨w.heap.size + 1 + 1, 0, none⟩) 1 1] : List Value)[j]? = some u → ((((w.alloc (.cells #[.int .i64 t.k, .string t.ch, .bool t.nt, .slice tA t.rows.length tc, .int .i64 t.mi, .int .i64 t.ma, .bool t.lz, .slice tB t.kids.length td] 25)).alloc (.cells #[.int .i64 0, .string ⟨#[]⟩, .bool false, .slice none 0 0, .int .i64 0, .int .i64 0, .bool false, .slice none 0 0] 25)).alloc (.cells #[.int .i64 t.k, .string t.ch, .bool t.nt, .slice tA t.rows.length tc, .int .i64 t.mi, .int .i64 t.ma, .bool t.lz, .slice tB t.kids.length td] 25)).alloc (.cells #[.int .i64 7, .string ⟨#[]⟩, .bool false, .slice none 0 0, .int .i64 (0), .int .i64 (-1), .bool false, .slice (some ⟨w.heap.size + 1 + 1, 0, none⟩) 1 1] 25)).cell? ⟨w.heap.size + 1 + 1 + 1, j, none⟩ = some u from fun j u hu => by
    have := cells_lit (((w.alloc (.cells #[.int .i64 t.k, .string t.ch, .bool t.nt, .slice tA t.rows.length tc, .int .i64 t.mi, .int .i64 t.ma, .bool t.lz, .slice tB t.kids.length td] 25)).alloc (.cells #[.int .i64 0, .string ⟨#[]⟩, .bool false, .slice none 0 0, .int .i64 0, .int .i64 0, .bool false, .slice none 0 0] 25)).alloc (.cells #[.int .i64 t.k, .string t.ch, .bool t.nt, .slice tA t.rows.length tc, .int .i64 t.mi, .int .i64 t.ma, .bool t.lz, .slice tB t.kids.length td] 25)) #[.int .i64 7, .string ⟨#[]⟩, .bool false, .slice none 0 0, .int .i64 (0), .int .i64 (-1), .bool false, .slice (some ⟨w.heap.size + 1 + 1, 0, none⟩) 1 1] 25 j u hu
    rw [addr_add, Nat.zero_add] at this
    simpa using this)
  have HFZ1 := hide (show ∀ j, ((((w.alloc (.cells #[.int .i64 t.k, .string t.ch, .bool t.nt, .slice tA t.rows.length tc, .int .i64 t.mi, .int .i64 t.ma, .bool t.lz, .slice tB t.kids.length td] 25)).alloc (.cells #[.int .i64 0, .string ⟨#[]⟩, .bool false, .slice none 0 0, .int .i64 0, .int .i64 0, .bool false, .slice none 0 0] 25)).alloc (.cells #[.int .i64 t.k, .string t.ch, .bool t.nt, .slice tA t.rows.length tc, .int .i64 t.mi, .int .i64 t.ma, .bool t.lz, .slice tB t.kids.length td] 25)).alloc (.cells #[.int .i64 7, .string ⟨#[]⟩, .bool false, .slice none 0 0, .int .i64 (0), .int .i64 (-1), .bool false, .slice (some ⟨w.heap.size + 1 + 1, 0, none⟩) 1 1] 25)).frozen? ⟨w.heap.size + 1, j, none⟩ = false from fun j => by go_simp)
  have HFZ3 := hide (show ∀ j, ((((w.alloc (.cells #[.int .i64 t.k, .string t.ch, .bool t.nt, .slice tA t.rows.length tc, .int .i64 t.mi, .int .i64 t.ma, .bool t.lz, .slice tB t.kids.length td] 25)).alloc (.cells #[.int .i64 0, .string ⟨#[]⟩, .bool false, .slice none 0 0, .int .i64 0, .int .i64 0, .bool false, .slice none 0 0] 25)).alloc (.cells #[.int .i64 t.k, .string t.ch, .bool t.nt, .slice tA t.rows.length tc, .int .i64 t.mi, .int .i64 t.ma, .bool t.lz, .slice tB t.kids.length td] 25)).alloc (.cells #[.int .i64 7, .string ⟨#[]⟩, .bool false, .slice none 0 0, .int .i64 (0), .int .i64 (-1), .bool false, .slice (some ⟨w.heap.size + 1 + 1, 0, none⟩) 1 1] 25)).frozen? ⟨w.heap.size + 1 + 1 + 1, j, none⟩ = false from fun j => by go_simp)
  have HSZ0 := hide (show w.heap.size + 1 + 1 + 1 < ((((w.alloc (.cells #[.int .i64 t.k, .string t.ch, .bool t.nt, .slice tA t.rows.length tc, .int .i64 t.mi, .int .i64 t.ma, .bool t.lz, .slice tB t.kids.length td] 25)).alloc (.cells #[.int .i64 0, .string ⟨#[]⟩, .bool false, .slice none 0 0, .int .i64 0, .int .i64 0, .bool false, .slice none 0 0] 25)).alloc (.cells #[.int .i64 t.k, .string t.ch, .bool t.nt, .slice tA t.rows.length tc, .int .i64 t.mi, .int .i64 t.ma, .bool t.lz, .slice tB t.kids.length td] 25)).alloc (.cells #[.int .i64 7, .string ⟨#[]⟩, .bool false, .slice none 0 0, .int .i64 (0), .int .i64 (-1), .bool false, .slice (some ⟨w.heap.size + 1 + 1, 0, none⟩) 1 1] 25)).heap.size by simp)
  have HB0 := hide (show w.heap.size ≠ b by omega)
  have HB1 := hide (show w.heap.size + 1 ≠ b by omega)
  have HB2 := hide (show w.heap.size + 1 + 1 ≠ b by omega)
  have HB3 := hide (show w.heap.size + 1 + 1 + 1 ≠ b by omega)
  have HSELF := hide (HS.out.self HBL.out)
  unfold qntP at ho
  clear h hbN hN ht hf htrv htkv hbl
  rcases hq0 : (hdC l == [42]) with _ | _
  rotate_left
  · rw [hq0, if_pos rfl] at ho
    obtain ⟨r0, hr0⟩ : ∃ r0, tlC l = r0 := ⟨_, rfl⟩
    have HTT : Hid (∀ W, Rp W b A c zs l → Calls Try.prog 58 #[.pointer (some ⟨b, 0, none⟩), .string ⟨#[42]⟩] W fun e w' => e = .returned (.bool true) ∧ Rv W w' b zs r0) := hide (fun W hp => by rw [← hr0]; exact rr_take hp ⟨#[42]⟩ (by decide) true hq0)
    rw [hr0] at ho
    clear hr0 hq0
    unfold lazP at ho
    obtain ⟨lz, hlz⟩ : ∃ q, (hdC r0 == [63]) = q := ⟨_, rfl⟩
    have HTQ := hide (fun W (hp : Rp W b A c zs r0) => rr_take hp ⟨#[63]⟩ (by decide) lz hlz)
    rw [hlz] at ho
    obtain ⟨r2, hr2⟩ : ∃ r2, (if lz = true then tlC r0 else r0) = r2 := ⟨_, rfl⟩
    rw [hr2] at ho HTQ
    subst ho
    clear hlz hr2 h123
    go_enter Try.func65, Try.ntmps65
    go_wp2_with fail
    refine (HTT.out _ HP0.out).mono ?_
    rintro e w2 ⟨rfl, hm⟩
    have M2 : Hid (Rv ((((w.alloc (.cells #[.int .i64 t.k, .string t.ch, .bool t.nt, .slice tA t.rows.length tc, .int .i64 t.mi, .int .i64 t.ma, .bool t.lz, .slice tB t.kids.length td] 25)).alloc (.cells #[.int .i64 0, .string ⟨#[]⟩, .bool false, .slice none 0 0, .int .i64 0, .int .i64 0, .bool false, .slice none 0 0] 25)).alloc (.cells #[.int .i64 t.k, .string t.ch, .bool t.nt, .slice tA t.rows.length tc, .int .i64 t.mi, .int .i64 t.ma, .bool t.lz, .slice tB t.kids.length td] 25)).alloc (.cells #[.int .i64 7, .string ⟨#[]⟩, .bool false, .slice none 0 0, .int .i64 (0), .int .i64 (-1), .bool false, .slice (some ⟨w.heap.size + 1 + 1, 0, none⟩) 1 1] 25)) w2 b zs r0) := hide hm
    clear hm
    have M2w : Hid (Rv w w2 b zs r0) := hide (HSELF.out.trans M2.out)
    go_wp2_with fail
    refine (HTQ.out _ (M2w.out.pl HS.out)).mono ?_
    rintro e w3 ⟨rfl, hm3⟩
    have y0 : w3.cell? ⟨w.heap.size + 1 + 1 + 1, 0, none⟩ = some (.int .i64 7) := hm3.1.cell (M2.out.1.cell (HY0.out 0 _ rfl) HB3.out) HB3.out
    have y1 : w3.cell? ⟨w.heap.size + 1 + 1 + 1, 1, none⟩ = some (.string ⟨#[]⟩) := hm3.1.cell (M2.out.1.cell (HY0.out 1 _ rfl) HB3.out) HB3.out
    have y2 : w3.cell? ⟨w.heap.size + 1 + 1 + 1, 2, none⟩ = some (.bool false) := hm3.1.cell (M2.out.1.cell (HY0.out 2 _ rfl) HB3.out) HB3.out
    have y3 : w3.cell? ⟨w.heap.size + 1 + 1 + 1, 3, none⟩ = some (.slice none 0 0) := hm3.1.cell (M2.out.1.cell (HY0.out 3 _ rfl) HB3.out) HB3.out
    have y4 : w3.cell? ⟨w.heap.size + 1 + 1 + 1, 4, none⟩ = some (.int .i64 (0)) := hm3.1.cell (M2.out.1.cell (HY0.out 4 _ rfl) HB3.out) HB3.out
    have y5 : w3.cell? ⟨w.heap.size + 1 + 1 + 1, 5, none⟩ = some (.int .i64 (-1)) := hm3.1.cell (M2.out.1.cell (HY0.out 5 _ rfl) HB3.out) HB3.out
    have y6 : w3.cell? ⟨w.heap.size + 1 + 1 + 1, 6, none⟩ = some (.bool false) := hm3.1.cell (M2.out.1.cell (HY0.out 6 _ rfl) HB3.out) HB3.out
    have y7 : w3.cell? ⟨w.heap.size + 1 + 1 + 1, 7, none⟩ = some (.slice (some ⟨w.heap.size + 1 + 1, 0, none⟩) 1 1) := hm3.1.cell (M2.out.1.cell (HY0.out 7 _ rfl) HB3.out) HB3.out
    have z0 : w3.cell? ⟨w.heap.size + 1, 0, none⟩ = some (.int .i64 0) := hm3.1.cell (M2.out.1.cell (HZ0.out 0 _ rfl) HB1.out) HB1.out
    have z1 : w3.cell? ⟨w.heap.size + 1, 1, none⟩ = some (.string ⟨#[]⟩) := hm3.1.cell (M2.out.1.cell (HZ0.out 1 _ rfl) HB1.out) HB1.out
    have z2 : w3.cell? ⟨w.heap.size + 1, 2, none⟩ = some (.bool false) := hm3.1.cell (M2.out.1.cell (HZ0.out 2 _ rfl) HB1.out) HB1.out
    have z3 : w3.cell? ⟨w.heap.size + 1, 3, none⟩ = some (.slice none 0 0) := hm3.1.cell (M2.out.1.cell (HZ0.out 3 _ rfl) HB1.out) HB1.out
    have z4 : w3.cell? ⟨w.heap.size + 1, 4, none⟩ = some (.int .i64 0) := hm3.1.cell (M2.out.1.cell (HZ0.out 4 _ rfl) HB1.out) HB1.out
    have z5 : w3.cell? ⟨w.heap.size + 1, 5, none⟩ = some (.int .i64 0) := hm3.1.cell (M2.out.1.cell (HZ0.out 5 _ rfl) HB1.out) HB1.out
    have z6 : w3.cell? ⟨w.heap.size + 1, 6, none⟩ = some (.bool false) := hm3.1.cell (M2.out.1.cell (HZ0.out 6 _ rfl) HB1.out) HB1.out
    have z7 : w3.cell? ⟨w.heap.size + 1, 7, none⟩ = some (.slice none 0 0) := hm3.1.cell (M2.out.1.cell (HZ0.out 7 _ rfl) HB1.out) HB1.out
    have SZ2 : w.heap.size + 1 + 1 + 1 < w2.heap.size := Nat.lt_of_lt_of_le HSZ0.out M2.out.1.grown.size
    have hf3 : ∀ o, w3.frozen? ⟨w.heap.size + 1 + 1 + 1, o, none⟩ = false := fun o => (hm3.1.frz (p := ⟨w.heap.size + 1 + 1 + 1, o, none⟩) SZ2 HB3.out).trans ((M2.out.1.frz (p := ⟨w.heap.size + 1 + 1 + 1, o, none⟩) HSZ0.out HB3.out).trans (HFZ3.out o))
    have hf1 : ∀ o, w3.frozen? ⟨w.heap.size + 1, o, none⟩ = false := fun o => (hm3.1.frz (p := ⟨w.heap.size + 1, o, none⟩) (Nat.lt_trans (show w.heap.size + 1 < w.heap.size + 1 + 1 + 1 by omega) SZ2) HB1.out).trans ((M2.out.1.frz (p := ⟨w.heap.size + 1, o, none⟩) (Nat.lt_trans (show w.heap.size + 1 < w.heap.size + 1 + 1 + 1 by omega) HSZ0.out) HB1.out).trans (HFZ1.out o))
    have HKK := hide (show ∀ j u, t.cs[j]? = some u → w3.cell? ⟨w.heap.size + 1 + 1, j, none⟩ = some u from fun j u hu => hm3.1.cell (M2.out.1.cell (HK0.out j u (by rw [← HCS.out]; exact hu)) HB2.out) HB2.out)
    have M4 := hide (M2w.out.trans hm3)
    clear hm3 SZ2
    have HM8 := hide (rv8 (M4.out.put (g := w.heap.size + 1 + 1 + 1) HB3.out (by omega) 6 (.bool lz)) HB1.out (show w.heap.size ≤ w.heap.size + 1 by omega) 0 (.int .i64 7) 1 (.string ⟨#[]⟩) 2 (.bool false) 3 (.slice none 0 0) 4 (.int .i64 (0)) 5 (.int .i64 (-1)) 6 (.bool lz) 7 (.slice (some ⟨w.heap.size + 1 + 1, 0, none⟩) 1 1))
    have HLT := hide (show w.heap.size + 1 + 1 < w.heap.size + 1 + 1 + 1 by omega)
    have HEND := hide (rrep_end (g := w.heap.size + 1 + 1) (mi := 0) (ma := -1) (lz := lz) HM8.out HBN.out HN.out HT.out HF.out (Nat.le_trans HN.out (by omega)) (fun j u hu => set8 (set_blk (HKK.out j u hu) (show w.heap.size + 1 + 1 + 1 ≠ w.heap.size + 1 + 1 by omega)) (show w.heap.size + 1 ≠ w.heap.size + 1 + 1 by omega)))
    go_wp2
    refine bodyPost_ret (v := .tuple #[.agg #[.int .i64 7, .string ⟨#[]⟩, .bool false, .slice none 0 0, .int .i64 (0), .int .i64 (-1), .bool lz, .slice (some ⟨w.heap.size + 1 + 1, 0, none⟩) 1 1], .int .i64 0]) ?_ rfl HEND.out
    rw [results_cell2 rfl]
    go_simp
  rw [hq0, if_neg (by decide)] at ho
  have HT0 := hide (fun W (hp : Rp W b A c zs l) => rr_take hp ⟨#[42]⟩ (by decide) false hq0)
  clear hq0
  rcases hq1 : (hdC l == [43]) with _ | _
  rotate_left
  · rw [hq1, if_pos rfl] at ho
    obtain ⟨r0, hr0⟩ : ∃ r0, tlC l = r0 := ⟨_, rfl⟩
    have HTT : Hid (∀ W, Rp W b A c zs l → Calls Try.prog 58 #[.pointer (some ⟨b, 0, none⟩), .string ⟨#[43]⟩] W fun e w' => e = .returned (.bool true) ∧ Rv W w' b zs r0) := hide (fun W hp => by rw [← hr0]; exact rr_take hp ⟨#[43]⟩ (by decide) true hq1)
    rw [hr0] at ho
    clear hr0 hq1
    unfold lazP at ho
    obtain ⟨lz, hlz⟩ : ∃ q, (hdC r0 == [63]) = q := ⟨_, rfl⟩
    have HTQ := hide (fun W (hp : Rp W b A c zs r0) => rr_take hp ⟨#[63]⟩ (by decide) lz hlz)
    rw [hlz] at ho
    obtain ⟨r2, hr2⟩ : ∃ r2, (if lz = true then tlC r0 else r0) = r2 := ⟨_, rfl⟩
    rw [hr2] at ho HTQ
    subst ho
    clear hlz hr2 h123
    go_enter Try.func65, Try.ntmps65
    go_wp2_with fail
    refine (HT0.out _ HP0.out).mono ?_
    rintro e u0 ⟨rfl, hm⟩
    have N0 : Hid (Rv ((((w.alloc (.cells #[.int .i64 t.k, .string t.ch, .bool t.nt, .slice tA t.rows.length tc, .int .i64 t.mi, .int .i64 t.ma, .bool t.lz, .slice tB t.kids.length td] 25)).alloc (.cells #[.int .i64 0, .string ⟨#[]⟩, .bool false, .slice none 0 0, .int .i64 0, .int .i64 0, .bool false, .slice none 0 0] 25)).alloc (.cells #[.int .i64 t.k, .string t.ch, .bool t.nt, .slice tA t.rows.length tc, .int .i64 t.mi, .int .i64 t.ma, .bool t.lz, .slice tB t.kids.length td] 25)).alloc (.cells #[.int .i64 7, .string ⟨#[]⟩, .bool false, .slice none 0 0, .int .i64 (0), .int .i64 (-1), .bool false, .slice (some ⟨w.heap.size + 1 + 1, 0, none⟩) 1 1] 25)) u0 b zs l) := hide hm
    clear hm
    go_wp2_with fail
    refine (HTT.out _ (N0.out.pl HP0.out)).mono ?_
    rintro e w2 ⟨rfl, hm⟩
    have M2 : Hid (Rv ((((w.alloc (.cells #[.int .i64 t.k, .string t.ch, .bool t.nt, .slice tA t.rows.length tc, .int .i64 t.mi, .int .i64 t.ma, .bool t.lz, .slice tB t.kids.length td] 25)).alloc (.cells #[.int .i64 0, .string ⟨#[]⟩, .bool false, .slice none 0 0, .int .i64 0, .int .i64 0, .bool false, .slice none 0 0] 25)).alloc (.cells #[.int .i64 t.k, .string t.ch, .bool t.nt, .slice tA t.rows.length tc, .int .i64 t.mi, .int .i64 t.ma, .bool t.lz, .slice tB t.kids.length td] 25)).alloc (.cells #[.int .i64 7, .string ⟨#[]⟩, .bool false, .slice none 0 0, .int .i64 (0), .int .i64 (-1), .bool false, .slice (some ⟨w.heap.size + 1 + 1, 0, none⟩) 1 1] 25)) w2 b zs r0) := hide (N0.out.trans hm)
    clear hm
    have hf9 : ∀ o, w2.frozen? ⟨w.heap.size + 1 + 1 + 1, o, none⟩ = false := fun o => (M2.out.1.frz (p := ⟨w.heap.size + 1 + 1 + 1, o, none⟩) HSZ0.out HB3.out).trans (HFZ3.out o)
    have y9 : w2.cell? ⟨w.heap.size + 1 + 1 + 1, 4, none⟩ = some (.int .i64 (0)) := M2.out.1.cell (HY0.out 4 _ rfl) HB3.out
    have M2w : Hid (Rv w (w2.setCell ⟨w.heap.size + 1 + 1 + 1, 4, none⟩ (.int .i64 1)) b zs r0) := hide ((HSELF.out.trans M2.out).put HB3.out (by omega) 4 (.int .i64 1))
    go_wp2_with fail
    refine (HTQ.out _ (M2w.out.pl HS.out)).mono ?_
    rintro e w3 ⟨rfl, hm3⟩
    have y0 : w3.cell? ⟨w.heap.size + 1 + 1 + 1, 0, none⟩ = some (.int .i64 7) := hm3.1.cell (set_off (M2.out.1.cell (HY0.out 0 _ rfl) HB3.out) (by decide)) HB3.out
    have y1 : w3.cell? ⟨w.heap.size + 1 + 1 + 1, 1, none⟩ = some (.string ⟨#[]⟩) := hm3.1.cell (set_off (M2.out.1.cell (HY0.out 1 _ rfl) HB3.out) (by decide)) HB3.out
    have y2 : w3.cell? ⟨w.heap.size + 1 + 1 + 1, 2, none⟩ = some (.bool false) := hm3.1.cell (set_off (M2.out.1.cell (HY0.out 2 _ rfl) HB3.out) (by decide)) HB3.out
    have y3 : w3.cell? ⟨w.heap.size + 1 + 1 + 1, 3, none⟩ = some (.slice none 0 0) := hm3.1.cell (set_off (M2.out.1.cell (HY0.out 3 _ rfl) HB3.out) (by decide)) HB3.out
    have y4 : w3.cell? ⟨w.heap.size + 1 + 1 + 1, 4, none⟩ = some (.int .i64 (1)) := hm3.1.cell (set_at (M2.out.1.cell (HY0.out 4 _ rfl) HB3.out)) HB3.out
    have y5 : w3.cell? ⟨w.heap.size + 1 + 1 + 1, 5, none⟩ = some (.int .i64 (-1)) := hm3.1.cell (set_off (M2.out.1.cell (HY0.out 5 _ rfl) HB3.out) (by decide)) HB3.out
    have y6 : w3.cell? ⟨w.heap.size + 1 + 1 + 1, 6, none⟩ = some (.bool false) := hm3.1.cell (set_off (M2.out.1.cell (HY0.out 6 _ rfl) HB3.out) (by decide)) HB3.out
    have y7 : w3.cell? ⟨w.heap.size + 1 + 1 + 1, 7, none⟩ = some (.slice (some ⟨w.heap.size + 1 + 1, 0, none⟩) 1 1) := hm3.1.cell (set_off (M2.out.1.cell (HY0.out 7 _ rfl) HB3.out) (by decide)) HB3.out
    have z0 : w3.cell? ⟨w.heap.size + 1, 0, none⟩ = some (.int .i64 0) := hm3.1.cell (set_blk (M2.out.1.cell (HZ0.out 0 _ rfl) HB1.out) (show w.heap.size + 1 + 1 + 1 ≠ w.heap.size + 1 by omega)) HB1.out
    have z1 : w3.cell? ⟨w.heap.size + 1, 1, none⟩ = some (.string ⟨#[]⟩) := hm3.1.cell (set_blk (M2.out.1.cell (HZ0.out 1 _ rfl) HB1.out) (show w.heap.size + 1 + 1 + 1 ≠ w.heap.size + 1 by omega)) HB1.out
    have z2 : w3.cell? ⟨w.heap.size + 1, 2, none⟩ = some (.bool false) := hm3.1.cell (set_blk (M2.out.1.cell (HZ0.out 2 _ rfl) HB1.out) (show w.heap.size + 1 + 1 + 1 ≠ w.heap.size + 1 by omega)) HB1.out
    have z3 : w3.cell? ⟨w.heap.size + 1, 3, none⟩ = some (.slice none 0 0) := hm3.1.cell (set_blk (M2.out.1.cell (HZ0.out 3 _ rfl) HB1.out) (show w.heap.size + 1 + 1 + 1 ≠ w.heap.size + 1 by omega)) HB1.out
    have z4 : w3.cell? ⟨w.heap.size + 1, 4, none⟩ = some (.int .i64 0) := hm3.1.cell (set_blk (M2.out.1.cell (HZ0.out 4 _ rfl) HB1.out) (show w.heap.size + 1 + 1 + 1 ≠ w.heap.size + 1 by omega)) HB1.out
    have z5 : w3.cell? ⟨w.heap.size + 1, 5, none⟩ = some (.int .i64 0) := hm3.1.cell (set_blk (M2.out.1.cell (HZ0.out 5 _ rfl) HB1.out) (show w.heap.size + 1 + 1 + 1 ≠ w.heap.size + 1 by omega)) HB1.out
    have z6 : w3.cell? ⟨w.heap.size + 1, 6, none⟩ = some (.bool false) := hm3.1.cell (set_blk (M2.out.1.cell (HZ0.out 6 _ rfl) HB1.out) (show w.heap.size + 1 + 1 + 1 ≠ w.heap.size + 1 by omega)) HB1.out
    have z7 : w3.cell? ⟨w.heap.size + 1, 7, none⟩ = some (.slice none 0 0) := hm3.1.cell (set_blk (M2.out.1.cell (HZ0.out 7 _ rfl) HB1.out) (show w.heap.size + 1 + 1 + 1 ≠ w.heap.size + 1 by omega)) HB1.out
    have SZ2 : w.heap.size + 1 + 1 + 1 < w2.heap.size := Nat.lt_of_lt_of_le HSZ0.out M2.out.1.grown.size
    have hf3 : ∀ o, w3.frozen? ⟨w.heap.size + 1 + 1 + 1, o, none⟩ = false := fun o => (hm3.1.frz (p := ⟨w.heap.size + 1 + 1 + 1, o, none⟩) (by simpa using SZ2) HB3.out).trans ((by rw [World.frozen?_setCell]; exact (M2.out.1.frz (p := ⟨w.heap.size + 1 + 1 + 1, o, none⟩) HSZ0.out HB3.out).trans (HFZ3.out o)))
    have hf1 : ∀ o, w3.frozen? ⟨w.heap.size + 1, o, none⟩ = false := fun o => (hm3.1.frz (p := ⟨w.heap.size + 1, o, none⟩) (by have := SZ2; simp; omega) HB1.out).trans ((by rw [World.frozen?_setCell]; exact (M2.out.1.frz (p := ⟨w.heap.size + 1, o, none⟩) (Nat.lt_trans (show w.heap.size + 1 < w.heap.size + 1 + 1 + 1 by omega) HSZ0.out) HB1.out).trans (HFZ1.out o)))
    have HKK := hide (show ∀ j u, t.cs[j]? = some u → w3.cell? ⟨w.heap.size + 1 + 1, j, none⟩ = some u from fun j u hu => hm3.1.cell (set_blk (M2.out.1.cell (HK0.out j u (by rw [← HCS.out]; exact hu)) HB2.out) (show w.heap.size + 1 + 1 + 1 ≠ w.heap.size + 1 + 1 by omega)) HB2.out)
    have M4 := hide (M2w.out.trans hm3)
    clear hm3 SZ2 y9 hf9
    have HM8 := hide (rv8 (M4.out.put (g := w.heap.size + 1 + 1 + 1) HB3.out (by omega) 6 (.bool lz)) HB1.out (show w.heap.size ≤ w.heap.size + 1 by omega) 0 (.int .i64 7) 1 (.string ⟨#[]⟩) 2 (.bool false) 3 (.slice none 0 0) 4 (.int .i64 (1)) 5 (.int .i64 (-1)) 6 (.bool lz) 7 (.slice (some ⟨w.heap.size + 1 + 1, 0, none⟩) 1 1))
    have HLT := hide (show w.heap.size + 1 + 1 < w.heap.size + 1 + 1 + 1 by omega)
    have HEND := hide (rrep_end (g := w.heap.size + 1 + 1) (mi := 1) (ma := -1) (lz := lz) HM8.out HBN.out HN.out HT.out HF.out (Nat.le_trans HN.out (by omega)) (fun j u hu => set8 (set_blk (HKK.out j u hu) (show w.heap.size + 1 + 1 + 1 ≠ w.heap.size + 1 + 1 by omega)) (show w.heap.size + 1 ≠ w.heap.size + 1 + 1 by omega)))
    go_wp2
    refine bodyPost_ret (v := .tuple #[.agg #[.int .i64 7, .string ⟨#[]⟩, .bool false, .slice none 0 0, .int .i64 (1), .int .i64 (-1), .bool lz, .slice (some ⟨w.heap.size + 1 + 1, 0, none⟩) 1 1], .int .i64 0]) ?_ rfl HEND.out
    rw [results_cell2 rfl]
    go_simp
  rw [hq1, if_neg (by decide)] at ho
  have HT1 := hide (fun W (hp : Rp W b A c zs l) => rr_take hp ⟨#[43]⟩ (by decide) false hq1)
  clear hq1
  rcases hq2 : (hdC l == [63]) with _ | _
  rotate_left
  · rw [hq2, if_pos rfl] at ho
    obtain ⟨r0, hr0⟩ : ∃ r0, tlC l = r0 := ⟨_, rfl⟩
    have HTT : Hid (∀ W, Rp W b A c zs l → Calls Try.prog 58 #[.pointer (some ⟨b, 0, none⟩), .string ⟨#[63]⟩] W fun e w' => e = .returned (.bool true) ∧ Rv W w' b zs r0) := hide (fun W hp => by rw [← hr0]; exact rr_take hp ⟨#[63]⟩ (by decide) true hq2)
    rw [hr0] at ho
    clear hr0 hq2
    unfold lazP at ho
    obtain ⟨lz, hlz⟩ : ∃ q, (hdC r0 == [63]) = q := ⟨_, rfl⟩
    have HTQ := hide (fun W (hp : Rp W b A c zs r0) => rr_take hp ⟨#[63]⟩ (by decide) lz hlz)
    rw [hlz] at ho
    obtain ⟨r2, hr2⟩ : ∃ r2, (if lz = true then tlC r0 else r0) = r2 := ⟨_, rfl⟩
    rw [hr2] at ho HTQ
    subst ho
    clear hlz hr2 h123
    go_enter Try.func65, Try.ntmps65
    go_wp2_with fail
    refine (HT0.out _ HP0.out).mono ?_
    rintro e u0 ⟨rfl, hm⟩
    have N0 : Hid (Rv ((((w.alloc (.cells #[.int .i64 t.k, .string t.ch, .bool t.nt, .slice tA t.rows.length tc, .int .i64 t.mi, .int .i64 t.ma, .bool t.lz, .slice tB t.kids.length td] 25)).alloc (.cells #[.int .i64 0, .string ⟨#[]⟩, .bool false, .slice none 0 0, .int .i64 0, .int .i64 0, .bool false, .slice none 0 0] 25)).alloc (.cells #[.int .i64 t.k, .string t.ch, .bool t.nt, .slice tA t.rows.length tc, .int .i64 t.mi, .int .i64 t.ma, .bool t.lz, .slice tB t.kids.length td] 25)).alloc (.cells #[.int .i64 7, .string ⟨#[]⟩, .bool false, .slice none 0 0, .int .i64 (0), .int .i64 (-1), .bool false, .slice (some ⟨w.heap.size + 1 + 1, 0, none⟩) 1 1] 25)) u0 b zs l) := hide hm
    clear hm
    go_wp2_with fail
    refine (HT1.out _ (N0.out.pl HP0.out)).mono ?_
    rintro e u1 ⟨rfl, hm⟩
    have N1 : Hid (Rv ((((w.alloc (.cells #[.int .i64 t.k, .string t.ch, .bool t.nt, .slice tA t.rows.length tc, .int .i64 t.mi, .int .i64 t.ma, .bool t.lz, .slice tB t.kids.length td] 25)).alloc (.cells #[.int .i64 0, .string ⟨#[]⟩, .bool false, .slice none 0 0, .int .i64 0, .int .i64 0, .bool false, .slice none 0 0] 25)).alloc (.cells #[.int .i64 t.k, .string t.ch, .bool t.nt, .slice tA t.rows.length tc, .int .i64 t.mi, .int .i64 t.ma, .bool t.lz, .slice tB t.kids.length td] 25)).alloc (.cells #[.int .i64 7, .string ⟨#[]⟩, .bool false, .slice none 0 0, .int .i64 (0), .int .i64 (-1), .bool false, .slice (some ⟨w.heap.size + 1 + 1, 0, none⟩) 1 1] 25)) u1 b zs l) := hide (N0.out.trans hm)
    clear hm
    go_wp2_with fail
    refine (HTT.out _ (N1.out.pl HP0.out)).mono ?_
    rintro e w2 ⟨rfl, hm⟩
    have M2 : Hid (Rv ((((w.alloc (.cells #[.int .i64 t.k, .string t.ch, .bool t.nt, .slice tA t.rows.length tc, .int .i64 t.mi, .int .i64 t.ma, .bool t.lz, .slice tB t.kids.length td] 25)).alloc (.cells #[.int .i64 0, .string ⟨#[]⟩, .bool false, .slice none 0 0, .int .i64 0, .int .i64 0, .bool false, .slice none 0 0] 25)).alloc (.cells #[.int .i64 t.k, .string t.ch, .bool t.nt, .slice tA t.rows.length tc, .int .i64 t.mi, .int .i64 t.ma, .bool t.lz, .slice tB t.kids.length td] 25)).alloc (.cells #[.int .i64 7, .string ⟨#[]⟩, .bool false, .slice none 0 0, .int .i64 (0), .int .i64 (-1), .bool false, .slice (some ⟨w.heap.size + 1 + 1, 0, none⟩) 1 1] 25)) w2 b zs r0) := hide (N1.out.trans hm)
    clear hm
    have hf9 : ∀ o, w2.frozen? ⟨w.heap.size + 1 + 1 + 1, o, none⟩ = false := fun o => (M2.out.1.frz (p := ⟨w.heap.size + 1 + 1 + 1, o, none⟩) HSZ0.out HB3.out).trans (HFZ3.out o)
    have y9 : w2.cell? ⟨w.heap.size + 1 + 1 + 1, 5, none⟩ = some (.int .i64 (-1)) := M2.out.1.cell (HY0.out 5 _ rfl) HB3.out
    have M2w : Hid (Rv w (w2.setCell ⟨w.heap.size + 1 + 1 + 1, 5, none⟩ (.int .i64 1)) b zs r0) := hide ((HSELF.out.trans M2.out).put HB3.out (by omega) 5 (.int .i64 1))
    go_wp2_with fail
    refine (HTQ.out _ (M2w.out.pl HS.out)).mono ?_
    rintro e w3 ⟨rfl, hm3⟩
    have y0 : w3.cell? ⟨w.heap.size + 1 + 1 + 1, 0, none⟩ = some (.int .i64 7) := hm3.1.cell (set_off (M2.out.1.cell (HY0.out 0 _ rfl) HB3.out) (by decide)) HB3.out
    have y1 : w3.cell? ⟨w.heap.size + 1 + 1 + 1, 1, none⟩ = some (.string ⟨#[]⟩) := hm3.1.cell (set_off (M2.out.1.cell (HY0.out 1 _ rfl) HB3.out) (by decide)) HB3.out
    have y2 : w3.cell? ⟨w.heap.size + 1 + 1 + 1, 2, none⟩ = some (.bool false) := hm3.1.cell (set_off (M2.out.1.cell (HY0.out 2 _ rfl) HB3.out) (by decide)) HB3.out
    have y3 : w3.cell? ⟨w.heap.size + 1 + 1 + 1, 3, none⟩ = some (.slice none 0 0) := hm3.1.cell (set_off (M2.out.1.cell (HY0.out 3 _ rfl) HB3.out) (by decide)) HB3.out
    have y4 : w3.cell? ⟨w.heap.size + 1 + 1 + 1, 4, none⟩ = some (.int .i64 (0)) := hm3.1.cell (set_off (M2.out.1.cell (HY0.out 4 _ rfl) HB3.out) (by decide)) HB3.out
    have y5 : w3.cell? ⟨w.heap.size + 1 + 1 + 1, 5, none⟩ = some (.int .i64 (1)) := hm3.1.cell (set_at (M2.out.1.cell (HY0.out 5 _ rfl) HB3.out)) HB3.out
    have y6 : w3.cell? ⟨w.heap.size + 1 + 1 + 1, 6, none⟩ = some (.bool false) := hm3.1.cell (set_off (M2.out.1.cell (HY0.out 6 _ rfl) HB3.out) (by decide)) HB3.out
    have y7 : w3.cell? ⟨w.heap.size + 1 + 1 + 1, 7, none⟩ = some (.slice (some ⟨w.heap.size + 1 + 1, 0, none⟩) 1 1) := hm3.1.cell (set_off (M2.out.1.cell (HY0.out 7 _ rfl) HB3.out) (by decide)) HB3.out
    have z0 : w3.cell? ⟨w.heap.size + 1, 0, none⟩ = some (.int .i64 0) := hm3.1.cell (set_blk (M2.out.1.cell (HZ0.out 0 _ rfl) HB1.out) (show w.heap.size + 1 + 1 + 1 ≠ w.heap.size + 1 by omega)) HB1.out
    have z1 : w3.cell? ⟨w.heap.size + 1, 1, none⟩ = some (.string ⟨#[]⟩) := hm3.1.cell (set_blk (M2.out.1.cell (HZ0.out 1 _ rfl) HB1.out) (show w.heap.size + 1 + 1 + 1 ≠ w.heap.size + 1 by omega)) HB1.out
    have z2 : w3.cell? ⟨w.heap.size + 1, 2, none⟩ = some (.bool false) := hm3.1.cell (set_blk (M2.out.1.cell (HZ0.out 2 _ rfl) HB1.out) (show w.heap.size + 1 + 1 + 1 ≠ w.heap.size + 1 by omega)) HB1.out
    have z3 : w3.cell? ⟨w.heap.size + 1, 3, none⟩ = some (.slice none 0 0) := hm3.1.cell (set_blk (M2.out.1.cell (HZ0.out 3 _ rfl) HB1.out) (show w.heap.size + 1 + 1 + 1 ≠ w.heap.size + 1 by omega)) HB1.out
    have z4 : w3.cell? ⟨w.heap.size + 1, 4, none⟩ = some (.int .i64 0) := hm3.1.cell (set_blk (M2.out.1.cell (HZ0.out 4 _ rfl) HB1.out) (show w.heap.size + 1 + 1 + 1 ≠ w.heap.size + 1 by omega)) HB1.out
    have z5 : w3.cell? ⟨w.heap.size + 1, 5, none⟩ = some (.int .i64 0) := hm3.1.cell (set_blk (M2.out.1.cell (HZ0.out 5 _ rfl) HB1.out) (show w.heap.size + 1 + 1 + 1 ≠ w.heap.size + 1 by omega)) HB1.out
    have z6 : w3.cell? ⟨w.heap.size + 1, 6, none⟩ = some (.bool false) := hm3.1.cell (set_blk (M2.out.1.cell (HZ0.out 6 _ rfl) HB1.out) (show w.heap.size + 1 + 1 + 1 ≠ w.heap.size + 1 by omega)) HB1.out
    have z7 : w3.cell? ⟨w.heap.size + 1, 7, none⟩ = some (.slice none 0 0) := hm3.1.cell (set_blk (M2.out.1.cell (HZ0.out 7 _ rfl) HB1.out) (show w.heap.size + 1 + 1 + 1 ≠ w.heap.size + 1 by omega)) HB1.out
    have SZ2 : w.heap.size + 1 + 1 + 1 < w2.heap.size := Nat.lt_of_lt_of_le HSZ0.out M2.out.1.grown.size
    have hf3 : ∀ o, w3.frozen? ⟨w.heap.size + 1 + 1 + 1, o, none⟩ = false := fun o => (hm3.1.frz (p := ⟨w.heap.size + 1 + 1 + 1, o, none⟩) (by simpa using SZ2) HB3.out).trans ((by rw [World.frozen?_setCell]; exact (M2.out.1.frz (p := ⟨w.heap.size + 1 + 1 + 1, o, none⟩) HSZ0.out HB3.out).trans (HFZ3.out o)))
    have hf1 : ∀ o, w3.frozen? ⟨w.heap.size + 1, o, none⟩ = false := fun o => (hm3.1.frz (p := ⟨w.heap.size + 1, o, none⟩) (by have := SZ2; simp; omega) HB1.out).trans ((by rw [World.frozen?_setCell]; exact (M2.out.1.frz (p := ⟨w.heap.size + 1, o, none⟩) (Nat.lt_trans (show w.heap.size + 1 < w.heap.size + 1 + 1 + 1 by omega) HSZ0.out) HB1.out).trans (HFZ1.out o)))
    have HKK := hide (show ∀ j u, t.cs[j]? = some u → w3.cell? ⟨w.heap.size + 1 + 1, j, none⟩ = some u from fun j u hu => hm3.1.cell (set_blk (M2.out.1.cell (HK0.out j u (by rw [← HCS.out]; exact hu)) HB2.out) (show w.heap.size + 1 + 1 + 1 ≠ w.heap.size + 1 + 1 by omega)) HB2.out)
    have M4 := hide (M2w.out.trans hm3)
    clear hm3 SZ2 y9 hf9
    have HM8 := hide (rv8 (M4.out.put (g := w.heap.size + 1 + 1 + 1) HB3.out (by omega) 6 (.bool lz)) HB1.out (show w.heap.size ≤ w.heap.size + 1 by omega) 0 (.int .i64 7) 1 (.string ⟨#[]⟩) 2 (.bool false) 3 (.slice none 0 0) 4 (.int .i64 (0)) 5 (.int .i64 (1)) 6 (.bool lz) 7 (.slice (some ⟨w.heap.size + 1 + 1, 0, none⟩) 1 1))
    have HLT := hide (show w.heap.size + 1 + 1 < w.heap.size + 1 + 1 + 1 by omega)
    have HEND := hide (rrep_end (g := w.heap.size + 1 + 1) (mi := 0) (ma := 1) (lz := lz) HM8.out HBN.out HN.out HT.out HF.out (Nat.le_trans HN.out (by omega)) (fun j u hu => set8 (set_blk (HKK.out j u hu) (show w.heap.size + 1 + 1 + 1 ≠ w.heap.size + 1 + 1 by omega)) (show w.heap.size + 1 ≠ w.heap.size + 1 + 1 by omega)))
    go_wp2
    refine bodyPost_ret (v := .tuple #[.agg #[.int .i64 7, .string ⟨#[]⟩, .bool false, .slice none 0 0, .int .i64 (0), .int .i64 (1), .bool lz, .slice (some ⟨w.heap.size + 1 + 1, 0, none⟩) 1 1], .int .i64 0]) ?_ rfl HEND.out
    rw [results_cell2 rfl]
    go_simp
  rw [hq2, if_neg (by decide)] at ho
  have HT2 := hide (fun W (hp : Rp W b A c zs l) => rr_take hp ⟨#[63]⟩ (by decide) false hq2)
  clear hq2
  rw [h123, if_neg (by decide)] at ho
  have HT3 := hide (fun W (hp : Rp W b A c zs l) => rr_take hp ⟨#[123]⟩ (by decide) false h123)
  subst ho
  clear h123
  go_enter Try.func65, Try.ntmps65
  go_wp2_with fail
  refine (HT0.out _ HP0.out).mono ?_
  rintro e u0 ⟨rfl, hm⟩
  have N0 : Hid (Rv ((((w.alloc (.cells #[.int .i64 t.k, .string t.ch, .bool t.nt, .slice tA t.rows.length tc, .int .i64 t.mi, .int .i64 t.ma, .bool t.lz, .slice tB t.kids.length td] 25)).alloc (.cells #[.int .i64 0, .string ⟨#[]⟩, .bool false, .slice none 0 0, .int .i64 0, .int .i64 0, .bool false, .slice none 0 0] 25)).alloc (.cells #[.int .i64 t.k, .string t.ch, .bool t.nt, .slice tA t.rows.length tc, .int .i64 t.mi, .int .i64 t.ma, .bool t.lz, .slice tB t.kids.length td] 25)).alloc (.cells #[.int .i64 7, .string ⟨#[]⟩, .bool false, .slice none 0 0, .int .i64 (0), .int .i64 (-1), .bool false, .slice (some ⟨w.heap.size + 1 + 1, 0, none⟩) 1 1] 25)) u0 b zs l) := hide hm
  clear hm
  go_wp2_with fail
  refine (HT1.out _ (N0.out.pl HP0.out)).mono ?_
  rintro e u1 ⟨rfl, hm⟩
  have N1 : Hid (Rv ((((w.alloc (.cells #[.int .i64 t.k, .string t.ch, .bool t.nt, .slice tA t.rows.length tc, .int .i64 t.mi, .int .i64 t.ma, .bool t.lz, .slice tB t.kids.length td] 25)).alloc (.cells #[.int .i64 0, .string ⟨#[]⟩, .bool false, .slice none 0 0, .int .i64 0, .int .i64 0, .bool false, .slice none 0 0] 25)).alloc (.cells #[.int .i64 t.k, .string t.ch, .bool t.nt, .slice tA t.rows.length tc, .int .i64 t.mi, .int .i64 t.ma, .bool t.lz, .slice tB t.kids.length td] 25)).alloc (.cells #[.int .i64 7, .string ⟨#[]⟩, .bool false, .slice none 0 0, .int .i64 (0), .int .i64 (-1), .bool false, .slice (some ⟨w.heap.size + 1 + 1, 0, none⟩) 1 1] 25)) u1 b zs l) := hide (N0.out.trans hm)
  clear hm
  go_wp2_with fail
  refine (HT2.out _ (N1.out.pl HP0.out)).mono ?_
  rintro e u2 ⟨rfl, hm⟩
  have N2 : Hid (Rv ((((w.alloc (.cells #[.int .i64 t.k, .string t.ch, .bool t.nt, .slice tA t.rows.length tc, .int .i64 t.mi, .int .i64 t.ma, .bool t.lz, .slice tB t.kids.length td] 25)).alloc (.cells #[.int .i64 0, .string ⟨#[]⟩, .bool false, .slice none 0 0, .int .i64 0, .int .i64 0, .bool false, .slice none 0 0] 25)).alloc (.cells #[.int .i64 t.k, .string t.ch, .bool t.nt, .slice tA t.rows.length tc, .int .i64 t.mi, .int .i64 t.ma, .bool t.lz, .slice tB t.kids.length td] 25)).alloc (.cells #[.int .i64 7, .string ⟨#[]⟩, .bool false, .slice none 0 0, .int .i64 (0), .int .i64 (-1), .bool false, .slice (some ⟨w.heap.size + 1 + 1, 0, none⟩) 1 1] 25)) u2 b zs l) := hide (N1.out.trans hm)
  clear hm
  go_wp2_with fail
  refine (HT3.out _ (N2.out.pl HP0.out)).mono ?_
  rintro e u3 ⟨rfl, hm⟩
  have N3 : Hid (Rv ((((w.alloc (.cells #[.int .i64 t.k, .string t.ch, .bool t.nt, .slice tA t.rows.length tc, .int .i64 t.mi, .int .i64 t.ma, .bool t.lz, .slice tB t.kids.length td] 25)).alloc (.cells #[.int .i64 0, .string ⟨#[]⟩, .bool false, .slice none 0 0, .int .i64 0, .int .i64 0, .bool false, .slice none 0 0] 25)).alloc (.cells #[.int .i64 t.k, .string t.ch, .bool t.nt, .slice tA t.rows.length tc, .int .i64 t.mi, .int .i64 t.ma, .bool t.lz, .slice tB t.kids.length td] 25)).alloc (.cells #[.int .i64 7, .string ⟨#[]⟩, .bool false, .slice none 0 0, .int .i64 (0), .int .i64 (-1), .bool false, .slice (some ⟨w.heap.size + 1 + 1, 0, none⟩) 1 1] 25)) u3 b zs l) := hide (N2.out.trans hm)
  clear hm
  have x0 : u3.cell? ⟨w.heap.size, 0, none⟩ = some (.int .i64 t.k) := N3.out.1.cell (HX0.out 0 _ rfl) HB0.out
  have x1 : u3.cell? ⟨w.heap.size, 1, none⟩ = some (.string t.ch) := N3.out.1.cell (HX0.out 1 _ rfl) HB0.out
  have x2 : u3.cell? ⟨w.heap.size, 2, none⟩ = some (.bool t.nt) := N3.out.1.cell (HX0.out 2 _ rfl) HB0.out
  have x3 : u3.cell? ⟨w.heap.size, 3, none⟩ = some (.slice tA t.rows.length tc) := N3.out.1.cell (HX0.out 3 _ rfl) HB0.out
  have x4 : u3.cell? ⟨w.heap.size, 4, none⟩ = some (.int .i64 t.mi) := N3.out.1.cell (HX0.out 4 _ rfl) HB0.out
  have x5 : u3.cell? ⟨w.heap.size, 5, none⟩ = some (.int .i64 t.ma) := N3.out.1.cell (HX0.out 5 _ rfl) HB0.out
  have x6 : u3.cell? ⟨w.heap.size, 6, none⟩ = some (.bool t.lz) := N3.out.1.cell (HX0.out 6 _ rfl) HB0.out
  have x7 : u3.cell? ⟨w.heap.size, 7, none⟩ = some (.slice tB t.kids.length td) := N3.out.1.cell (HX0.out 7 _ rfl) HB0.out
  have z0 : u3.cell? ⟨w.heap.size + 1, 0, none⟩ = some (.int .i64 0) := N3.out.1.cell (HZ0.out 0 _ rfl) HB1.out
  have z1 : u3.cell? ⟨w.heap.size + 1, 1, none⟩ = some (.string ⟨#[]⟩) := N3.out.1.cell (HZ0.out 1 _ rfl) HB1.out
  have z2 : u3.cell? ⟨w.heap.size + 1, 2, none⟩ = some (.bool false) := N3.out.1.cell (HZ0.out 2 _ rfl) HB1.out
  have z3 : u3.cell? ⟨w.heap.size + 1, 3, none⟩ = some (.slice none 0 0) := N3.out.1.cell (HZ0.out 3 _ rfl) HB1.out
  have z4 : u3.cell? ⟨w.heap.size + 1, 4, none⟩ = some (.int .i64 0) := N3.out.1.cell (HZ0.out 4 _ rfl) HB1.out
  have z5 : u3.cell? ⟨w.heap.size + 1, 5, none⟩ = some (.int .i64 0) := N3.out.1.cell (HZ0.out 5 _ rfl) HB1.out
  have z6 : u3.cell? ⟨w.heap.size + 1, 6, none⟩ = some (.bool false) := N3.out.1.cell (HZ0.out 6 _ rfl) HB1.out
  have z7 : u3.cell? ⟨w.heap.size + 1, 7, none⟩ = some (.slice none 0 0) := N3.out.1.cell (HZ0.out 7 _ rfl) HB1.out
  have hf1 : ∀ o, u3.frozen? ⟨w.heap.size + 1, o, none⟩ = false := fun o => (N3.out.1.frz (p := ⟨w.heap.size + 1, o, none⟩) (Nat.lt_trans (show w.heap.size + 1 < w.heap.size + 1 + 1 + 1 by omega) HSZ0.out) HB1.out).trans (HFZ1.out o)
  have HW8 := hide (rv8 (HSELF.out.trans N3.out) HB1.out (show w.heap.size ≤ w.heap.size + 1 by omega) 0 (.int .i64 t.k) 1 (.string t.ch) 2 (.bool t.nt) 3 (.slice tA t.rows.length tc) 4 (.int .i64 t.mi) 5 (.int .i64 t.ma) 6 (.bool t.lz) 7 (.slice tB t.kids.length td))
  go_wp2
  refine bodyPost_ret (v := .tuple #[.agg #[.int .i64 t.k, .string t.ch, .bool t.nt, .slice tA t.rows.length tc, .int .i64 t.mi, .int .i64 t.ma, .bool t.lz, .slice tB t.kids.length td], .int .i64 0]) ?_ rfl ⟨t, by rw [HTV.out], HW8.out, rx_kept HT.out HF.out (rv_kept HW8.out HBN.out), HF.out, rfl⟩
  rw [results_cell2 rfl]
  go_simp
end
section
open Go.ChangeShapes Go.WideShapes Go.ChangeAt Go.RowKit
open SetM
attribute [local go_sem ↓] Go.wp_at_zero Go.wp_at_succ
set_option maxRecDepth 100000
set_option linter.unusedVariables false
attribute [local go_sem] later_cell later_frozen
/-- These cells lie in block g; it may be written. -/
structure Cl (W : World) (g : Nat) (cs : List Value) : Prop where
  c : ∀ j u, cs[j]? = some u → W.cell? ⟨g, j, none⟩ = some u
  f : ∀ o, W.frozen? ⟨g, o, none⟩ = false
  s : g < W.heap.size
theorem Cl.mv {W W' : World} {b k g : Nat} {cs : List Value} (h : Cl W g cs) (hm : Mvd W W' b 0 k) (hb : g ≠ b) : Cl W' g cs :=
  ⟨fun j u hu => hm.cell (h.c j u hu) hb, fun o => (hm.frz (p := ⟨g, o, none⟩) h.s hb).trans (h.f o), Nat.lt_of_lt_of_le h.s hm.grown.size⟩
theorem Cl.bl {W W' : World} {g : Nat} {cs : List Value} (h : Cl W g cs) (hb : Below W.heap.size W W') : Cl W' g cs :=
  ⟨fun j u hu => cell_later hb (h.c j u hu), fun o => (hb.frozen (p := ⟨g, o, none⟩) h.s).trans (h.f o), Nat.lt_of_lt_of_le h.s hb.size⟩
theorem Cl.put {W : World} {g : Nat} {cs : List Value} (h : Cl W g cs) (o : Nat) (v : Value) : Cl (W.setCell ⟨g, o, none⟩ v) g (cs.set o v) := by
  refine ⟨fun j u hu => ?_, fun q => by rw [World.frozen?_setCell]; exact h.f q, by simpa using h.s⟩
  rw [List.getElem?_set] at hu
  split at hu
  · rename_i e
    subst e
    split at hu
    · rename_i hlt
      injection hu with hu
      subst hu
      exact set_at (h.c o _ (List.getElem?_eq_getElem hlt))
    · cases hu
  · rename_i e
    exact set_off (h.c j u hu) e
theorem Cl.off {W : World} {g g' : Nat} {cs : List Value} (h : Cl W g cs) (hn : g' ≠ g) (o : Nat) (v : Value) : Cl (W.setCell ⟨g', o, none⟩ v) g cs :=
  ⟨fun j u hu => set_blk (h.c j u hu) hn, fun q => by rw [World.frozen?_setCell]; exact h.f q, by simpa using h.s⟩
theorem Cl.eight {W : World} {g : Nat} {a0 a1 a2 a3 a4 a5 a6 a7 : Value} (h : Cl W g [a0, a1, a2, a3, a4, a5, a6, a7]) : W.cell? ⟨g, 0, none⟩ = some a0 ∧ W.cell? ⟨g, 1, none⟩ = some a1 ∧ W.cell? ⟨g, 2, none⟩ = some a2 ∧ W.cell? ⟨g, 3, none⟩ = some a3 ∧ W.cell? ⟨g, 4, none⟩ = some a4 ∧ W.cell? ⟨g, 5, none⟩ = some a5 ∧ W.cell? ⟨g, 6, none⟩ = some a6 ∧ W.cell? ⟨g, 7, none⟩ = some a7 :=
  ⟨h.c 0 _ rfl, h.c 1 _ rfl, h.c 2 _ rfl, h.c 3 _ rfl, h.c 4 _ rfl, h.c 5 _ rfl, h.c 6 _ rfl, h.c 7 _ rfl⟩
theorem cl_alloc (W : World) (cs : List Value) (T : TypeId) : Cl (W.alloc (.cells cs.toArray T)) W.heap.size cs :=
  ⟨ks_alloc rfl, fun o => by go_simp, by simp⟩
set_option maxHeartbeats 16000000 in
theorem rtimes_brace {w : World} {b N : Nat} {A : Option Addr} {c : Nat} {zs : List ByteArray} {l : List UInt8} (h : Rp w b A c zs l) (hbN : b < N) (hN : N ≤ w.heap.size) (t : Rt) (ht : RxAt w t) (hf : Fr N t) (h123 : (hdC l == [123]) = true) (res : Res) (ho : qntP (er t) l = res) :
    Calls Try.prog 65 #[.pointer (some ⟨b, 0, none⟩), t.v] w (RrPostN N w b zs res) := by
  obtain ⟨tA, tc, htrv⟩ := rwat_len ht.rows
  obtain ⟨tB, td, htkv⟩ := ksat_len ht.ks
  have HCS := hide (show t.cs = [.int .i64 t.k, .string t.ch, .bool t.nt, .slice tA t.rows.length tc, .int .i64 t.mi, .int .i64 t.ma, .bool t.lz, .slice tB t.kids.length td] by unfold Rt.cs; rw [htrv, htkv])
  have HTV := hide (show t.v = .agg #[.int .i64 t.k, .string t.ch, .bool t.nt, .slice tA t.rows.length tc, .int .i64 t.mi, .int .i64 t.ma, .bool t.lz, .slice tB t.kids.length td] by unfold Rt.v Rt.cs; rw [htrv, htkv])
  rw [HTV.out]
  have hbl := h.lt
  have HS := hide h
  have HBN := hide hbN
  have HN := hide hN
  have HT := hide ht
  have HF := hide hf
  have HBL := hide (show Below w.heap.size w ((((w.alloc (.cells #[.int .i64 t.k, .string t.ch, .bool t.nt, .slice tA t.rows.length tc, .int .i64 t.mi, .int .i64 t.ma, .bool t.lz, .slice tB t.kids.length td] 25)).alloc (.cells #[.int .i64 0, .string ⟨#[]⟩, .bool false, .slice none 0 0, .int .i64 0, .int .i64 0, .bool false, .slice none 0 0] 25)).alloc (.cells #[.int .i64 t.k, .string t.ch, .bool t.nt, .slice tA t.rows.length tc, .int .i64 t.mi, .int .i64 t.ma, .bool t.lz, .slice tB t.kids.length td] 25)).alloc (.cells #[.int .i64 7, .string ⟨#[]⟩, .bool false, .slice none 0 0, .int .i64 (0), .int .i64 (-1), .bool false, .slice (some ⟨w.heap.size + 1 + 1, 0, none⟩) 1 1] 25)) from bl_alloc (bl_alloc (bl_alloc (bl_alloc (bl_refl w) _) _) _) _)
  have HP0 := hide (h.bl HBL.out)
  have HX0 := hide (show ∀ j u, ([.int .i64 t.k, .string t.ch, .bool t.nt, .slice tA t.rows.length tc, .int .i64 t.mi, .int .i64 t.ma, .bool t.lz, .slice tB t.kids.length td] : List Value)[j]? = some u → ((((w.alloc (.cells #[.int .i64 t.k, .string t.ch, .bool t.nt, .slice tA t.rows.length tc, .int .i64 t.mi, .int .i64 t.ma, .bool t.lz, .slice tB t.kids.length td] 25)).alloc (.cells #[.int .i64 0, .string ⟨#[]⟩, .bool false, .slice none 0 0, .int .i64 0, .int .i64 0, .bool false, .slice none 0 0] 25)).alloc (.cells #[.int .i64 t.k, .string t.ch, .bool t.nt, .slice tA t.rows.length tc, .int .i64 t.mi, .int .i64 t.ma, .bool t.lz, .slice tB t.kids.length td] 25)).alloc (.cells #[.int .i64 7, .string ⟨#[]⟩, .bool false, .slice none 0 0, .int .i64 (0), .int .i64 (-1), .bool false, .slice (some ⟨w.heap.size + 1 + 1, 0, none⟩) 1 1] 25)).cell? ⟨w.heap.size, j, none⟩ = some u from fun j u hu => by
    have := cell_later (bl_alloc (bl_alloc (bl_alloc (bl_refl (w.alloc (.cells #[.int .i64 t.k, .string t.ch, .bool t.nt, .slice tA t.rows.length tc, .int .i64 t.mi, .int .i64 t.ma, .bool t.lz, .slice tB t.kids.length td] 25))) (.cells #[.int .i64 0, .string ⟨#[]⟩, .bool false, .slice none 0 0, .int .i64 0, .int .i64 0, .bool false, .slice none 0 0] 25)) (.cells #[.int .i64 t.k, .string t.ch, .bool t.nt, .slice tA t.rows.length tc, .int .i64 t.mi, .int .i64 t.ma, .bool t.lz, .slice tB t.kids.length td] 25)) (.cells #[.int .i64 7, .string ⟨#[]⟩, .bool false, .slice none 0 0, .int .i64 (0), .int .i64 (-1), .bool false, .slice (some ⟨w.heap.size + 1 + 1, 0, none⟩) 1 1] 25)) (cells_lit w #[.int .i64 t.k, .string t.ch, .bool t.nt, .slice tA t.rows.length tc, .int .i64 t.mi, .int .i64 t.ma, .bool t.lz, .slice tB t.kids.length td] 25 j u hu)
    rw [addr_add, Nat.zero_add] at this
    exact this)
  have HZ0 := hide (show ∀ j u, ([.int .i64 0, .string ⟨#[]⟩, .bool false, .slice none 0 0, .int .i64 0, .int .i64 0, .bool false, .slice none 0 0] : List Value)[j]? = some u → ((((w.alloc (.cells #[.int .i64 t.k, .string t.ch, .bool t.nt, .slice tA t.rows.length tc, .int .i64 t.mi, .int .i64 t.ma, .bool t.lz, .slice tB t.kids.length td] 25)).alloc (.cells #[.int .i64 0, .string ⟨#[]⟩, .bool false, .slice none 0 0, .int .i64 0, .int .i64 0, .bool false, .slice none 0 0] 25)).alloc (.cells #[.int .i64 t.k, .string t.ch, .bool t.nt, .slice tA t.rows.length tc, .int .i64 t.mi, .int .i64 t.ma, .bool t.lz, .slice tB t.kids.length td] 25)).alloc (.cells #[.int .i64 7, .string ⟨#[]⟩, .bool false, .slice none 0 0, .int .i64 (0), .int .i64 (-1), .bool false, .slice (some ⟨w.heap.size + 1 + 1, 0, none⟩) 1 1] 25)).cell? ⟨w.heap.size + 1, j, none⟩ = some u from fun j u hu => by
    have := cell_later (bl_alloc (bl_alloc (bl_refl ((w.alloc (.cells #[.int .i64 t.k, .string t.ch, .bool t.nt, .slice tA t.rows.length tc, .int .i64 t.mi, .int .i64 t.ma, .bool t.lz, .slice tB t.kids.length td] 25)).alloc (.cells #[.int .i64 0, .string ⟨#[]⟩, .bool false, .slice none 0 0, .int .i64 0, .int .i64 0, .bool false, .slice none 0 0] 25))) (.cells #[.int .i64 t.k, .string t.ch, .bool t.nt, .slice tA t.rows.length tc, .int .i64 t.mi, .int .i64 t.ma, .bool t.lz, .slice tB t.kids.length td] 25)) (.cells #[.int .i64 7, .string ⟨#[]⟩, .bool false, .slice none 0 0, .int .i64 (0), .int .i64 (-1), .bool false, .slice (some ⟨w.heap.size + 1 + 1, 0, none⟩) 1 1] 25)) (cells_lit (w.alloc (.cells #[.int .i64 t.k, .string t.ch, .bool t.nt, .slice tA t.rows.length tc, .int .i64 t.mi, .int .i64 t.ma, .bool t.lz, .slice tB t.kids.length td] 25)) #[.int .i64 0, .string ⟨#[]⟩, .bool false, .slice none 0 0, .int .i64 0, .int .i64 0, .bool false, .slice none 0 0] 25 j u hu)
    rw [addr_add, Nat.zero_add] at this
    simpa using this)
  have HK0 := hide (show ∀ j u, ([.int .i64 t.k, .string t.ch, .bool t.nt, .slice tA t.rows.length tc, .int .i64 t.mi, .int .i64 t.ma, .bool t.lz, .slice tB t.kids.length td] : List Value)[j]? = some u → ((((w.alloc (.cells #[.int .i64 t.k, .string t.ch, .bool t.nt, .slice tA t.rows.length tc, .int .i64 t.mi, .int .i64 t.ma, .bool t.lz, .slice tB t.kids.length td] 25)).alloc (.cells #[.int .i64 0, .string ⟨#[]⟩, .bool false, .slice none 0 0, .int .i64 0, .int .i64 0, .bool false, .slice none 0 0] 25)).alloc (.cells #[.int .i64 t.k, .string t.ch, .bool t.nt, .slice tA t.rows.length tc, .int .i64 t.mi, .int .i64 t.ma, .bool t.lz, .slice tB t.kids.length td] 25)).alloc (.cells #[.int .i64 7, .string ⟨#[]⟩, .bool false, .slice none 0 0, .int .i64 (0), .int .i64 (-1), .bool false, .slice (some ⟨w.heap.size + 1 + 1, 0, none⟩) 1 1] 25)).cell? ⟨w.heap.size + 1 + 1, j, none⟩ = some u from fun j u hu => by
    have := cell_later (bl_alloc (bl_refl (((w.alloc (.cells #[.int .i64 t.k, .string t.ch, .bool t.nt, .slice tA t.rows.length tc, .int .i64 t.mi, .int .i64 t.ma, .bool t.lz, .slice tB t.kids.length td] 25)).alloc (.cells #[.int .i64 0, .string ⟨#[]⟩, .bool false, .slice none 0 0, .int .i64 0, .int .i64 0, .bool false, .slice none 0 0] 25)).alloc (.cells #[.int .i64 t.k, .string t.ch, .bool t.nt, .slice tA t.rows.length tc, .int .i64 t.mi, .int .i64 t.ma, .bool t.lz, .slice tB t.kids.length td] 25))) (.cells #[.int .i64 7, .string ⟨#[]⟩, .bool false, .slice none 0 0, .int .i64 (0), .int .i64 (-1), .bool false, .slice (some ⟨w.heap.size + 1 + 1, 0, none⟩) 1 1] 25)) (cells_lit ((w.alloc (.cells #[.int .i64 t.k, .string t.ch, .bool t.nt, .slice tA t.rows.length tc, .int .i64 t.mi, .int .i64 t.ma, .bool t.lz, .slice tB t.kids.length td] 25)).alloc (.cells #[.int .i64 0, .string ⟨#[]⟩, .bool false, .slice none 0 0, .int .i64 0, .int .i64 0, .bool false, .slice none 0 0] 25)) #[.int .i64 t.k, .string t.ch, .bool t.nt, .slice tA t.rows.length tc, .int .i64 t.mi, .int .i64 t.ma, .bool t.lz, .slice tB t.kids.length td] 25 j u hu)
    rw [addr_add, Nat.zero_add] at this
    simpa using this)
  have HY0 := hide (show ∀ j u, ([.int .i64 7, .string ⟨#[]⟩, .bool false, .slice none 0 0, .int .i64 (0), .int .i64 (-1), .bool false, .slice (some ⟨w.heap.size + 1 + 1, 0, none⟩) 1 1] : List Value)[j]? = some u → ((((w.alloc (.cells #[.int .i64 t.k, .string t.ch, .bool t.nt, .slice tA t.rows.length tc, .int .i64 t.mi, .int .i64 t.ma, .bool t.lz, .slice tB t.kids.length td] 25)).alloc (.cells #[.int .i64 0, .string ⟨#[]⟩, .bool false, .slice none 0 0, .int .i64 0, .int .i64 0, .bool false, .slice none 0 0] 25)).alloc (.cells #[.int .i64 t.k, .string t.ch, .bool t.nt, .slice tA t.rows.length tc, .int .i64 t.mi, .int .i64 t.ma, .bool t.lz, .slice tB t.kids.length td] 25)).alloc (.cells #[.int .i64 7, .string ⟨#[]⟩, .bool false, .slice none 0 0, .int .i64 (0), .int .i64 (-1), .bool false, .slice (some ⟨w.heap.size + 1 + 1, 0, none⟩) 1 1] 25)).cell? ⟨w.heap.size + 1 + 1 + 1, j, none⟩ = some u from fun j u hu => by
    have := cells_lit (((w.alloc (.cells #[.int .i64 t.k, .string t.ch, .bool t.nt, .slice tA t.rows.length tc, .int .i64 t.mi, .int .i64 t.ma, .bool t.lz, .slice tB t.kids.length td] 25)).alloc (.cells #[.int .i64 0, .string ⟨#[]⟩, .bool false, .slice none 0 0, .int .i64 0, .int .i64 0, .bool false, .slice none 0 0] 25)).alloc (.cells #[.int .i64 t.k, .string t.ch, .bool t.nt, .slice tA t.rows.length tc, .int .i64 t.mi, .int .i64 t.ma, .bool t.lz, .slice tB t.kids.length td] 25)) #[.int .i64 7, .string ⟨#[]⟩, .bool false, .slice none 0 0, .int .i64 (0), .int .i64 (-1), .bool false, .slice (some ⟨w.heap.size + 1 + 1, 0, none⟩) 1 1] 25 j u hu
    rw [addr_add, Nat.zero_add] at this
    simpa using this)
  have HFZ1 := hide (show ∀ j, ((((w.alloc (.cells #[.int .i64 t.k, .string t.ch, .bool t.nt, .slice tA t.rows.length tc, .int .i64 t.mi, .int .i64 t.ma, .bool t.lz, .slice tB t.kids.length td] 25)).alloc (.cells #[.int .i64 0, .string ⟨#[]⟩, .bool false, .slice none 0 0, .int .i64 0, .int .i64 0, .bool false, .slice none 0 0] 25)).alloc (.cells #[.int .i64 t.k, .string t.ch, .bool t.nt, .slice tA t.rows.length tc, .int .i64 t.mi, .int .i64 t.ma, .bool t.lz, .slice tB t.kids.length td] 25)).alloc (.cells #[.int .i64 7, .string ⟨#[]⟩, .bool false, .slice none 0 0, .int .i64 (0), .int .i64 (-1), .bool false, .slice (some ⟨w.heap.size + 1 + 1, 0, none⟩) 1 1] 25)).frozen? ⟨w.heap.size + 1, j, none⟩ = false from fun j => by go_simp)
  have HFZ3 := hide (show ∀ j, ((((w.alloc (.cells #[.int .i64 t.k, .string t.ch, .bool t.nt, .slice tA t.rows.length tc, .int .i64 t.mi, .int .i64 t.ma, .bool t.lz, .slice tB t.kids.length td] 25)).alloc (.cells #[.int .i64 0, .string ⟨#[]⟩, .bool false, .slice none 0 0, .int .i64 0, .int .i64 0, .bool false, .slice none 0 0] 25)).alloc (.cells #[.int .i64 t.k, .string t.ch, .bool t.nt, .slice tA t.rows.length tc, .int .i64 t.mi, .int .i64 t.ma, .bool t.lz, .slice tB t.kids.length td] 25)).alloc (.cells #[.int .i64 7, .string ⟨#[]⟩, .bool false, .slice none 0 0, .int .i64 (0), .int .i64 (-1), .bool false, .slice (some ⟨w.heap.size + 1 + 1, 0, none⟩) 1 1] 25)).frozen? ⟨w.heap.size + 1 + 1 + 1, j, none⟩ = false from fun j => by go_simp)
  have HSZ0 := hide (show w.heap.size + 1 + 1 + 1 < ((((w.alloc (.cells #[.int .i64 t.k, .string t.ch, .bool t.nt, .slice tA t.rows.length tc, .int .i64 t.mi, .int .i64 t.ma, .bool t.lz, .slice tB t.kids.length td] 25)).alloc (.cells #[.int .i64 0, .string ⟨#[]⟩, .bool false, .slice none 0 0, .int .i64 0, .int .i64 0, .bool false, .slice none 0 0] 25)).alloc (.cells #[.int .i64 t.k, .string t.ch, .bool t.nt, .slice tA t.rows.length tc, .int .i64 t.mi, .int .i64 t.ma, .bool t.lz, .slice tB t.kids.length td] 25)).alloc (.cells #[.int .i64 7, .string ⟨#[]⟩, .bool false, .slice none 0 0, .int .i64 (0), .int .i64 (-1), .bool false, .slice (some ⟨w.heap.size + 1 + 1, 0, none⟩) 1 1] 25)).heap.size by simp)
  have HB0 := hide (show w.heap.size ≠ b by omega)
  have HB1 := hide (show w.heap.size + 1 ≠ b by omega)
  have HB2 := hide (show w.heap.size + 1 + 1 ≠ b by omega)
  have HB3 := hide (show w.heap.size + 1 + 1 + 1 ≠ b by omega)
  have HSELF := hide (HS.out.self HBL.out)
  unfold qntP at ho
  clear h hbN hN ht hf htrv htkv hbl
  have hl : hdC l = [123] := by simpa using h123
  have hq0 : (hdC l == [42]) = false := by rw [hl]; rfl
  have hq1 : (hdC l == [43]) = false := by rw [hl]; rfl
  have hq2 : (hdC l == [63]) = false := by rw [hl]; rfl
  rw [hq0, if_neg (by decide), hq1, if_neg (by decide), hq2, if_neg (by decide), h123, if_pos rfl, bndP_Q] at ho
  have HT0 := hide (fun W (hp : Rp W b A c zs l) => rr_take hp ⟨#[42]⟩ (by decide) false hq0)
  have HT1 := hide (fun W (hp : Rp W b A c zs l) => rr_take hp ⟨#[43]⟩ (by decide) false hq1)
  have HT2 := hide (fun W (hp : Rp W b A c zs l) => rr_take hp ⟨#[63]⟩ (by decide) false hq2)
  have Z0 := hide (show Cl ((((w.alloc (.cells #[.int .i64 t.k, .string t.ch, .bool t.nt, .slice tA t.rows.length tc, .int .i64 t.mi, .int .i64 t.ma, .bool t.lz, .slice tB t.kids.length td] 25)).alloc (.cells #[.int .i64 0, .string ⟨#[]⟩, .bool false, .slice none 0 0, .int .i64 0, .int .i64 0, .bool false, .slice none 0 0] 25)).alloc (.cells #[.int .i64 t.k, .string t.ch, .bool t.nt, .slice tA t.rows.length tc, .int .i64 t.mi, .int .i64 t.ma, .bool t.lz, .slice tB t.kids.length td] 25)).alloc (.cells #[.int .i64 7, .string ⟨#[]⟩, .bool false, .slice none 0 0, .int .i64 (0), .int .i64 (-1), .bool false, .slice (some ⟨w.heap.size + 1 + 1, 0, none⟩) 1 1] 25)) (w.heap.size + 1) [.int .i64 0, .string ⟨#[]⟩, .bool false, .slice none 0 0, .int .i64 0, .int .i64 0, .bool false, .slice none 0 0] from ⟨HZ0.out, HFZ1.out, by simp⟩)
  have Y0 := hide (show Cl ((((w.alloc (.cells #[.int .i64 t.k, .string t.ch, .bool t.nt, .slice tA t.rows.length tc, .int .i64 t.mi, .int .i64 t.ma, .bool t.lz, .slice tB t.kids.length td] 25)).alloc (.cells #[.int .i64 0, .string ⟨#[]⟩, .bool false, .slice none 0 0, .int .i64 0, .int .i64 0, .bool false, .slice none 0 0] 25)).alloc (.cells #[.int .i64 t.k, .string t.ch, .bool t.nt, .slice tA t.rows.length tc, .int .i64 t.mi, .int .i64 t.ma, .bool t.lz, .slice tB t.kids.length td] 25)).alloc (.cells #[.int .i64 7, .string ⟨#[]⟩, .bool false, .slice none 0 0, .int .i64 (0), .int .i64 (-1), .bool false, .slice (some ⟨w.heap.size + 1 + 1, 0, none⟩) 1 1] 25)) (w.heap.size + 1 + 1 + 1) [.int .i64 7, .string ⟨#[]⟩, .bool false, .slice none 0 0, .int .i64 (0), .int .i64 (-1), .bool false, .slice (some ⟨w.heap.size + 1 + 1, 0, none⟩) 1 1] from ⟨HY0.out, HFZ3.out, HSZ0.out⟩)
  have K0 := hide (show Cl ((((w.alloc (.cells #[.int .i64 t.k, .string t.ch, .bool t.nt, .slice tA t.rows.length tc, .int .i64 t.mi, .int .i64 t.ma, .bool t.lz, .slice tB t.kids.length td] 25)).alloc (.cells #[.int .i64 0, .string ⟨#[]⟩, .bool false, .slice none 0 0, .int .i64 0, .int .i64 0, .bool false, .slice none 0 0] 25)).alloc (.cells #[.int .i64 t.k, .string t.ch, .bool t.nt, .slice tA t.rows.length tc, .int .i64 t.mi, .int .i64 t.ma, .bool t.lz, .slice tB t.kids.length td] 25)).alloc (.cells #[.int .i64 7, .string ⟨#[]⟩, .bool false, .slice none 0 0, .int .i64 (0), .int .i64 (-1), .bool false, .slice (some ⟨w.heap.size + 1 + 1, 0, none⟩) 1 1] 25)) (w.heap.size + 1 + 1) t.cs from ⟨fun j u hu => HK0.out j u (by rw [← HCS.out]; exact hu), fun o => by go_simp, by simp⟩)
  have B23 := hide (show w.heap.size + 1 + 1 + 1 ≠ w.heap.size + 1 + 1 by omega)
  have B13 := hide (show w.heap.size + 1 + 1 + 1 ≠ w.heap.size + 1 by omega)
  have B12 := hide (show w.heap.size + 1 ≠ w.heap.size + 1 + 1 by omega)
  have L1 := hide (show w.heap.size ≤ w.heap.size + 1 by omega)
  have L3 := hide (show w.heap.size ≤ w.heap.size + 1 + 1 + 1 by omega)
  clear HZ0 HY0 HK0 HX0 HFZ1 HFZ3 HSZ0
  obtain ⟨r0, hr0⟩ : ∃ r0, tlC l = r0 := ⟨_, rfl⟩
  have HTT : Hid (∀ W, Rp W b A c zs l → Calls Try.prog 58 #[.pointer (some ⟨b, 0, none⟩), .string ⟨#[123]⟩] W fun e w' => e = .returned (.bool true) ∧ Rv W w' b zs r0) := hide (fun W hp => by rw [← hr0]; exact rr_take hp ⟨#[123]⟩ (by decide) true h123)
  rw [hr0] at ho
  clear hr0 hq0 hq1 hq2 hl h123
  unfold bndQ at ho
  obtain ⟨n, k, r, hz⟩ : ∃ n k r, numR 3 0 0 r0 = (n, k, r) := ⟨_, _, _, rfl⟩
  have hN1 := fun W (hp : Rp W b A c zs r0) => rnumber_any hp _ hz
  unfold RnPost at hN1
  simp only [hz] at ho hN1
  obtain ⟨q1, hq1⟩ : ∃ q, numOk n k = q := ⟨_, rfl⟩
  rw [hq1] at ho hN1
  have HN1 := hide hN1
  clear hz hN1 hq1
  have gm1 : ((n : Int) == -1) = false := by rw [Bool.eq_false_iff]; intro h; have := beq_iff_eq.1 h; omega
  cases q1
  · rw [if_neg (by decide)] at ho
    simp only at ho
    subst ho
    go_enter Try.func65, Try.ntmps65
    go_wp2_with fail
    refine (HT0.out _ HP0.out).mono ?_
    rintro e u0 ⟨rfl, hm⟩
    have N0 : Hid (Rv ((((w.alloc (.cells #[.int .i64 t.k, .string t.ch, .bool t.nt, .slice tA t.rows.length tc, .int .i64 t.mi, .int .i64 t.ma, .bool t.lz, .slice tB t.kids.length td] 25)).alloc (.cells #[.int .i64 0, .string ⟨#[]⟩, .bool false, .slice none 0 0, .int .i64 0, .int .i64 0, .bool false, .slice none 0 0] 25)).alloc (.cells #[.int .i64 t.k, .string t.ch, .bool t.nt, .slice tA t.rows.length tc, .int .i64 t.mi, .int .i64 t.ma, .bool t.lz, .slice tB t.kids.length td] 25)).alloc (.cells #[.int .i64 7, .string ⟨#[]⟩, .bool false, .slice none 0 0, .int .i64 (0), .int .i64 (-1), .bool false, .slice (some ⟨w.heap.size + 1 + 1, 0, none⟩) 1 1] 25)) u0 b zs l) := hide hm
    clear hm
    go_wp2_with fail
    refine (HT1.out _ (N0.out.pl HP0.out)).mono ?_
    rintro e u1 ⟨rfl, hm⟩
    have N1 : Hid (Rv ((((w.alloc (.cells #[.int .i64 t.k, .string t.ch, .bool t.nt, .slice tA t.rows.length tc, .int .i64 t.mi, .int .i64 t.ma, .bool t.lz, .slice tB t.kids.length td] 25)).alloc (.cells #[.int .i64 0, .string ⟨#[]⟩, .bool false, .slice none 0 0, .int .i64 0, .int .i64 0, .bool false, .slice none 0 0] 25)).alloc (.cells #[.int .i64 t.k, .string t.ch, .bool t.nt, .slice tA t.rows.length tc, .int .i64 t.mi, .int .i64 t.ma, .bool t.lz, .slice tB t.kids.length td] 25)).alloc (.cells #[.int .i64 7, .string ⟨#[]⟩, .bool false, .slice none 0 0, .int .i64 (0), .int .i64 (-1), .bool false, .slice (some ⟨w.heap.size + 1 + 1, 0, none⟩) 1 1] 25)) u1 b zs l) := hide (N0.out.trans hm)
    clear hm
    go_wp2_with fail
    refine (HT2.out _ (N1.out.pl HP0.out)).mono ?_
    rintro e u2 ⟨rfl, hm⟩
    have N2 : Hid (Rv ((((w.alloc (.cells #[.int .i64 t.k, .string t.ch, .bool t.nt, .slice tA t.rows.length tc, .int .i64 t.mi, .int .i64 t.ma, .bool t.lz, .slice tB t.kids.length td] 25)).alloc (.cells #[.int .i64 0, .string ⟨#[]⟩, .bool false, .slice none 0 0, .int .i64 0, .int .i64 0, .bool false, .slice none 0 0] 25)).alloc (.cells #[.int .i64 t.k, .string t.ch, .bool t.nt, .slice tA t.rows.length tc, .int .i64 t.mi, .int .i64 t.ma, .bool t.lz, .slice tB t.kids.length td] 25)).alloc (.cells #[.int .i64 7, .string ⟨#[]⟩, .bool false, .slice none 0 0, .int .i64 (0), .int .i64 (-1), .bool false, .slice (some ⟨w.heap.size + 1 + 1, 0, none⟩) 1 1] 25)) u2 b zs l) := hide (N1.out.trans hm)
    clear hm
    go_wp2_with fail
    refine (HTT.out _ (N2.out.pl HP0.out)).mono ?_
    rintro e w2 ⟨rfl, hm⟩
    have M2 : Hid (Rv ((((w.alloc (.cells #[.int .i64 t.k, .string t.ch, .bool t.nt, .slice tA t.rows.length tc, .int .i64 t.mi, .int .i64 t.ma, .bool t.lz, .slice tB t.kids.length td] 25)).alloc (.cells #[.int .i64 0, .string ⟨#[]⟩, .bool false, .slice none 0 0, .int .i64 0, .int .i64 0, .bool false, .slice none 0 0] 25)).alloc (.cells #[.int .i64 t.k, .string t.ch, .bool t.nt, .slice tA t.rows.length tc, .int .i64 t.mi, .int .i64 t.ma, .bool t.lz, .slice tB t.kids.length td] 25)).alloc (.cells #[.int .i64 7, .string ⟨#[]⟩, .bool false, .slice none 0 0, .int .i64 (0), .int .i64 (-1), .bool false, .slice (some ⟨w.heap.size + 1 + 1, 0, none⟩) 1 1] 25)) w2 b zs r0) := hide (N2.out.trans hm)
    clear hm
    go_wp2_with fail
    refine (HN1.out _ (M2.out.pl HP0.out)).mono ?_
    rintro e w3 ⟨rfl, hm⟩
    have M3 : Hid (Rv ((((w.alloc (.cells #[.int .i64 t.k, .string t.ch, .bool t.nt, .slice tA t.rows.length tc, .int .i64 t.mi, .int .i64 t.ma, .bool t.lz, .slice tB t.kids.length td] 25)).alloc (.cells #[.int .i64 0, .string ⟨#[]⟩, .bool false, .slice none 0 0, .int .i64 0, .int .i64 0, .bool false, .slice none 0 0] 25)).alloc (.cells #[.int .i64 t.k, .string t.ch, .bool t.nt, .slice tA t.rows.length tc, .int .i64 t.mi, .int .i64 t.ma, .bool t.lz, .slice tB t.kids.length td] 25)).alloc (.cells #[.int .i64 7, .string ⟨#[]⟩, .bool false, .slice none 0 0, .int .i64 (0), .int .i64 (-1), .bool false, .slice (some ⟨w.heap.size + 1 + 1, 0, none⟩) 1 1] 25)) w3 b zs r) := hide (M2.out.trans hm)
    clear hm
    have Y3 := hide (Y0.out.mv M3.out.1 HB3.out)
    have Z3 := hide (Z0.out.mv M3.out.1 HB1.out)
    have K3 := hide (K0.out.mv M3.out.1 HB2.out)
    have M3w := hide (HSELF.out.trans M3.out)
    obtain ⟨y0, y1, y2, y3, y4, y5, y6, y7⟩ := Y3.out.eight
    have hf3 := Y3.out.f
    obtain ⟨z0, z1, z2, z3, z4, z5, z6, z7⟩ := Z3.out.eight
    have hf1 := Z3.out.f
    have HE := hide (mvd8 M3w.out.1 HB1.out L1.out 0 (.int .i64 0) 1 (.string ⟨#[]⟩) 2 (.bool false) 3 (.slice none 0 0) 4 (.int .i64 0) 5 (.int .i64 0) 6 (.bool false) 7 (.slice none 0 0))
    go_wp2
    refine bodyPost_ret (v := .tuple #[.agg #[.int .i64 0, .string ⟨#[]⟩, .bool false, .slice none 0 0, .int .i64 0, .int .i64 0, .bool false, .slice none 0 0], .int .i64 10]) ?_ rfl ⟨rfl, _, HE.out⟩
    rw [results_cell2 rfl]
    go_simp
  rw [if_pos rfl] at ho
  obtain ⟨q2, hq2⟩ : ∃ q, (hdC r == [44]) = q := ⟨_, rfl⟩
  have HC2 := hide (fun W (hp : Rp W b A c zs r) => rr_take hp ⟨#[44]⟩ (by decide) q2 hq2)
  rw [hq2] at ho
  clear hq2
  cases q2
  rotate_left
  · rw [if_pos rfl] at ho
    obtain ⟨r1, hr1⟩ : ∃ r1, tlC r = r1 := ⟨_, rfl⟩
    simp only [if_true] at HC2
    rw [hr1] at ho HC2
    clear hr1
    obtain ⟨C, hC⟩ : ∃ C, bsC (hdC r1) = C := ⟨_, rfl⟩
    have HSE := hide (fun W (hp : Rp W b A c zs r1) => rr_see hp C hC)
    obtain ⟨q3, hq3⟩ : ∃ q, (hdC r1 == [125]) = q := ⟨_, rfl⟩
    have hCd : C.data.toList = hdC r1 := by rw [← hC, bsC_data]
    obtain ⟨yC, zC⟩ := lit_eq C #[125] q3 (by rw [hCd]; exact hq3)
    have HT5 := hide (fun W (hp : Rp W b A c zs r1) => rr_take hp ⟨#[125]⟩ (by decide) q3 hq3)
    rw [hq3] at ho
    clear hC hCd hq3
    cases q3
    rotate_left
    · rw [if_pos rfl] at ho
      simp only at ho
      obtain ⟨r4, hr4⟩ : ∃ r4, tlC r1 = r4 := ⟨_, rfl⟩
      simp only [if_true] at HT5
      rw [hr4] at ho HT5
      clear hr4
      unfold lazP at ho
      obtain ⟨lz, hlz⟩ : ∃ q, (hdC r4 == [63]) = q := ⟨_, rfl⟩
      have HTQ := hide (fun W (hp : Rp W b A c zs r4) => rr_take hp ⟨#[63]⟩ (by decide) lz hlz)
      rw [hlz] at ho
      obtain ⟨r2, hr2⟩ : ∃ r2, (if lz = true then tlC r4 else r4) = r2 := ⟨_, rfl⟩
      rw [hr2] at ho HTQ
      subst ho
      clear hlz hr2
      go_enter Try.func65, Try.ntmps65
      go_wp2_with fail
      refine (HT0.out _ HP0.out).mono ?_
      rintro e u0 ⟨rfl, hm⟩
      have N0 : Hid (Rv ((((w.alloc (.cells #[.int .i64 t.k, .string t.ch, .bool t.nt, .slice tA t.rows.length tc, .int .i64 t.mi, .int .i64 t.ma, .bool t.lz, .slice tB t.kids.length td] 25)).alloc (.cells #[.int .i64 0, .string ⟨#[]⟩, .bool false, .slice none 0 0, .int .i64 0, .int .i64 0, .bool false, .slice none 0 0] 25)).alloc (.cells #[.int .i64 t.k, .string t.ch, .bool t.nt, .slice tA t.rows.length tc, .int .i64 t.mi, .int .i64 t.ma, .bool t.lz, .slice tB t.kids.length td] 25)).alloc (.cells #[.int .i64 7, .string ⟨#[]⟩, .bool false, .slice none 0 0, .int .i64 (0), .int .i64 (-1), .bool false, .slice (some ⟨w.heap.size + 1 + 1, 0, none⟩) 1 1] 25)) u0 b zs l) := hide hm
      clear hm
      go_wp2_with fail
      refine (HT1.out _ (N0.out.pl HP0.out)).mono ?_
      rintro e u1 ⟨rfl, hm⟩
      have N1 : Hid (Rv ((((w.alloc (.cells #[.int .i64 t.k, .string t.ch, .bool t.nt, .slice tA t.rows.length tc, .int .i64 t.mi, .int .i64 t.ma, .bool t.lz, .slice tB t.kids.length td] 25)).alloc (.cells #[.int .i64 0, .string ⟨#[]⟩, .bool false, .slice none 0 0, .int .i64 0, .int .i64 0, .bool false, .slice none 0 0] 25)).alloc (.cells #[.int .i64 t.k, .string t.ch, .bool t.nt, .slice tA t.rows.length tc, .int .i64 t.mi, .int .i64 t.ma, .bool t.lz, .slice tB t.kids.length td] 25)).alloc (.cells #[.int .i64 7, .string ⟨#[]⟩, .bool false, .slice none 0 0, .int .i64 (0), .int .i64 (-1), .bool false, .slice (some ⟨w.heap.size + 1 + 1, 0, none⟩) 1 1] 25)) u1 b zs l) := hide (N0.out.trans hm)
      clear hm
      go_wp2_with fail
      refine (HT2.out _ (N1.out.pl HP0.out)).mono ?_
      rintro e u2 ⟨rfl, hm⟩
      have N2 : Hid (Rv ((((w.alloc (.cells #[.int .i64 t.k, .string t.ch, .bool t.nt, .slice tA t.rows.length tc, .int .i64 t.mi, .int .i64 t.ma, .bool t.lz, .slice tB t.kids.length td] 25)).alloc (.cells #[.int .i64 0, .string ⟨#[]⟩, .bool false, .slice none 0 0, .int .i64 0, .int .i64 0, .bool false, .slice none 0 0] 25)).alloc (.cells #[.int .i64 t.k, .string t.ch, .bool t.nt, .slice tA t.rows.length tc, .int .i64 t.mi, .int .i64 t.ma, .bool t.lz, .slice tB t.kids.length td] 25)).alloc (.cells #[.int .i64 7, .string ⟨#[]⟩, .bool false, .slice none 0 0, .int .i64 (0), .int .i64 (-1), .bool false, .slice (some ⟨w.heap.size + 1 + 1, 0, none⟩) 1 1] 25)) u2 b zs l) := hide (N1.out.trans hm)
      clear hm
      go_wp2_with fail
      refine (HTT.out _ (N2.out.pl HP0.out)).mono ?_
      rintro e w2 ⟨rfl, hm⟩
      have M2 : Hid (Rv ((((w.alloc (.cells #[.int .i64 t.k, .string t.ch, .bool t.nt, .slice tA t.rows.length tc, .int .i64 t.mi, .int .i64 t.ma, .bool t.lz, .slice tB t.kids.length td] 25)).alloc (.cells #[.int .i64 0, .string ⟨#[]⟩, .bool false, .slice none 0 0, .int .i64 0, .int .i64 0, .bool false, .slice none 0 0] 25)).alloc (.cells #[.int .i64 t.k, .string t.ch, .bool t.nt, .slice tA t.rows.length tc, .int .i64 t.mi, .int .i64 t.ma, .bool t.lz, .slice tB t.kids.length td] 25)).alloc (.cells #[.int .i64 7, .string ⟨#[]⟩, .bool false, .slice none 0 0, .int .i64 (0), .int .i64 (-1), .bool false, .slice (some ⟨w.heap.size + 1 + 1, 0, none⟩) 1 1] 25)) w2 b zs r0) := hide (N2.out.trans hm)
      clear hm
      go_wp2_with fail
      refine (HN1.out _ (M2.out.pl HP0.out)).mono ?_
      rintro e w3 ⟨rfl, hm⟩
      have M3 : Hid (Rv ((((w.alloc (.cells #[.int .i64 t.k, .string t.ch, .bool t.nt, .slice tA t.rows.length tc, .int .i64 t.mi, .int .i64 t.ma, .bool t.lz, .slice tB t.kids.length td] 25)).alloc (.cells #[.int .i64 0, .string ⟨#[]⟩, .bool false, .slice none 0 0, .int .i64 0, .int .i64 0, .bool false, .slice none 0 0] 25)).alloc (.cells #[.int .i64 t.k, .string t.ch, .bool t.nt, .slice tA t.rows.length tc, .int .i64 t.mi, .int .i64 t.ma, .bool t.lz, .slice tB t.kids.length td] 25)).alloc (.cells #[.int .i64 7, .string ⟨#[]⟩, .bool false, .slice none 0 0, .int .i64 (0), .int .i64 (-1), .bool false, .slice (some ⟨w.heap.size + 1 + 1, 0, none⟩) 1 1] 25)) w3 b zs r) := hide (M2.out.trans hm)
      clear hm
      have Y3 := hide (Y0.out.mv M3.out.1 HB3.out)
      have Z3 := hide (Z0.out.mv M3.out.1 HB1.out)
      have K3 := hide (K0.out.mv M3.out.1 HB2.out)
      have M3w := hide (HSELF.out.trans M3.out)
      have M4p : Hid (Rv w ((w3.setCell ⟨w.heap.size + 1 + 1 + 1, 4, none⟩ (.int .i64 (n : Int))).setCell ⟨w.heap.size + 1 + 1 + 1, 5, none⟩ (.int .i64 (n : Int))) b zs r) := hide ((M3w.out.put HB3.out L3.out 4 (.int .i64 (n : Int))).put HB3.out L3.out 5 (.int .i64 (n : Int)))
      have Y4p : Hid (Cl ((w3.setCell ⟨w.heap.size + 1 + 1 + 1, 4, none⟩ (.int .i64 (n : Int))).setCell ⟨w.heap.size + 1 + 1 + 1, 5, none⟩ (.int .i64 (n : Int))) (w.heap.size + 1 + 1 + 1) [.int .i64 7, .string ⟨#[]⟩, .bool false, .slice none 0 0, .int .i64 ((n : Int)), .int .i64 ((n : Int)), .bool false, .slice (some ⟨w.heap.size + 1 + 1, 0, none⟩) 1 1]) := hide ((Y3.out.put 4 (.int .i64 (n : Int))).put 5 (.int .i64 (n : Int)))
      have Z4p : Hid (Cl ((w3.setCell ⟨w.heap.size + 1 + 1 + 1, 4, none⟩ (.int .i64 (n : Int))).setCell ⟨w.heap.size + 1 + 1 + 1, 5, none⟩ (.int .i64 (n : Int))) (w.heap.size + 1) [.int .i64 0, .string ⟨#[]⟩, .bool false, .slice none 0 0, .int .i64 0, .int .i64 0, .bool false, .slice none 0 0]) := hide ((Z3.out.off B13.out 4 (.int .i64 (n : Int))).off B13.out 5 (.int .i64 (n : Int)))
      have K4p : Hid (Cl ((w3.setCell ⟨w.heap.size + 1 + 1 + 1, 4, none⟩ (.int .i64 (n : Int))).setCell ⟨w.heap.size + 1 + 1 + 1, 5, none⟩ (.int .i64 (n : Int))) (w.heap.size + 1 + 1) t.cs) := hide ((K3.out.off B23.out 4 (.int .i64 (n : Int))).off B23.out 5 (.int .i64 (n : Int)))
      obtain ⟨y0, y1, y2, y3, y4, y5, y6, y7⟩ := Y3.out.eight
      have hf3 := Y3.out.f
      go_wp2_with fail
      refine (HC2.out _ (M4p.out.pl HS.out)).mono ?_
      rintro e w4 ⟨rfl, hm4⟩
      have M4 := hide (M4p.out.trans hm4)
      have Y4 := hide (Y4p.out.mv hm4.1 HB3.out)
      have Z4 := hide (Z4p.out.mv hm4.1 HB1.out)
      have K4 := hide (K4p.out.mv hm4.1 HB2.out)
      clear hm4
      clear y0 y1 y2 y3 y4 y5 y6 y7 hf3
      have M4v : Hid (Rv w (w4.setCell ⟨w.heap.size + 1 + 1 + 1, 5, none⟩ (.int .i64 (-1))) b zs _) := hide (M4.out.put HB3.out L3.out 5 (.int .i64 (-1)))
      have Y4v : Hid (Cl (w4.setCell ⟨w.heap.size + 1 + 1 + 1, 5, none⟩ (.int .i64 (-1))) (w.heap.size + 1 + 1 + 1) [.int .i64 7, .string ⟨#[]⟩, .bool false, .slice none 0 0, .int .i64 ((n : Int)), .int .i64 ((-1)), .bool false, .slice (some ⟨w.heap.size + 1 + 1, 0, none⟩) 1 1]) := hide (Y4.out.put 5 (.int .i64 (-1)))
      have Z4v := hide (Z4.out.off B13.out 5 (.int .i64 (-1)))
      have K4v := hide (K4.out.off B23.out 5 (.int .i64 (-1)))
      obtain ⟨y0, y1, y2, y3, y4, y5, y6, y7⟩ := Y4.out.eight
      have hf3 := Y4.out.f
      go_wp2_with fail
      refine (HSE.out _ (M4v.out.pl HS.out)).mono ?_
      rintro e w5 ⟨rfl, hb5⟩
      have M5 := hide (M4v.out.bl hb5)
      have Y5 := hide (Y4v.out.bl hb5)
      have Z5 := hide (Z4v.out.bl hb5)
      have K5 := hide (K4v.out.bl hb5)
      clear hb5
      clear y0 y1 y2 y3 y4 y5 y6 y7 hf3
      go_wp2_with fail
      refine (HT5.out _ (M5.out.pl HS.out)).mono ?_
      rintro e w6 ⟨rfl, hm6⟩
      have M6 := hide (M5.out.trans hm6)
      have Y6 := hide (Y5.out.mv hm6.1 HB3.out)
      have Z6 := hide (Z5.out.mv hm6.1 HB1.out)
      have K6 := hide (K5.out.mv hm6.1 HB2.out)
      clear hm6
      obtain ⟨y0, y1, y2, y3, y4, y5, y6, y7⟩ := Y6.out.eight
      have hf3 := Y6.out.f
      go_wp2_with fail
      refine (HTQ.out _ (M6.out.pl HS.out)).mono ?_
      rintro e w9 ⟨rfl, hm9⟩
      have M9 := hide (M6.out.trans hm9)
      have Y9 := hide (Y6.out.mv hm9.1 HB3.out)
      have Z9 := hide (Z6.out.mv hm9.1 HB1.out)
      have K9 := hide (K6.out.mv hm9.1 HB2.out)
      clear hm9
      clear y0 y1 y2 y3 y4 y5 y6 y7 hf3
      obtain ⟨y0, y1, y2, y3, y4, y5, y6, y7⟩ := Y9.out.eight
      have hf3 := Y9.out.f
      obtain ⟨z0, z1, z2, z3, z4, z5, z6, z7⟩ := Z9.out.eight
      have hf1 := Z9.out.f
      have HM8 := hide (rv8 (M9.out.put (g := w.heap.size + 1 + 1 + 1) HB3.out L3.out 6 (.bool lz)) HB1.out L1.out 0 (.int .i64 7) 1 (.string ⟨#[]⟩) 2 (.bool false) 3 (.slice none 0 0) 4 (.int .i64 ((n : Int))) 5 (.int .i64 ((-1))) 6 (.bool lz) 7 (.slice (some ⟨w.heap.size + 1 + 1, 0, none⟩) 1 1))
      have HEND := hide (rrep_end (g := w.heap.size + 1 + 1) (mi := (n : Int)) (ma := (-1)) (lz := lz) HM8.out HBN.out HN.out HT.out HF.out (Nat.le_trans HN.out (by omega)) (fun j u hu => set8 (set_blk (K9.out.c j u hu) B23.out) B12.out))
      go_wp2
      refine bodyPost_ret (v := .tuple #[.agg #[.int .i64 7, .string ⟨#[]⟩, .bool false, .slice none 0 0, .int .i64 (n : Int), .int .i64 (-1), .bool lz, .slice (some ⟨w.heap.size + 1 + 1, 0, none⟩) 1 1], .int .i64 0]) ?_ rfl HEND.out
      rw [results_cell2 rfl]
      go_simp
    rw [if_neg (by decide)] at ho
    obtain ⟨m, k2, r5, hz2⟩ : ∃ m k2 r5, numR 3 0 0 r1 = (m, k2, r5) := ⟨_, _, _, rfl⟩
    have hN2 := fun W (hp : Rp W b A c zs r1) => rnumber_any hp _ hz2
    unfold RnPost at hN2
    simp only [hz2] at ho hN2
    obtain ⟨q4, hq4⟩ : ∃ q, numOk m k2 = q := ⟨_, rfl⟩
    rw [hq4] at ho hN2
    have HN2 := hide hN2
    have gm2 : ((m : Int) == -1) = false := by rw [Bool.eq_false_iff]; intro h; have := beq_iff_eq.1 h; omega
    clear hN2 hz2 hq4 HT5
    cases q4
    · rw [if_neg (by simp)] at ho
      simp only at ho
      subst ho
      go_enter Try.func65, Try.ntmps65
      go_wp2_with fail
      refine (HT0.out _ HP0.out).mono ?_
      rintro e u0 ⟨rfl, hm⟩
      have N0 : Hid (Rv ((((w.alloc (.cells #[.int .i64 t.k, .string t.ch, .bool t.nt, .slice tA t.rows.length tc, .int .i64 t.mi, .int .i64 t.ma, .bool t.lz, .slice tB t.kids.length td] 25)).alloc (.cells #[.int .i64 0, .string ⟨#[]⟩, .bool false, .slice none 0 0, .int .i64 0, .int .i64 0, .bool false, .slice none 0 0] 25)).alloc (.cells #[.int .i64 t.k, .string t.ch, .bool t.nt, .slice tA t.rows.length tc, .int .i64 t.mi, .int .i64 t.ma, .bool t.lz, .slice tB t.kids.length td] 25)).alloc (.cells #[.int .i64 7, .string ⟨#[]⟩, .bool false, .slice none 0 0, .int .i64 (0), .int .i64 (-1), .bool false, .slice (some ⟨w.heap.size + 1 + 1, 0, none⟩) 1 1] 25)) u0 b zs l) := hide hm
      clear hm
      go_wp2_with fail
      refine (HT1.out _ (N0.out.pl HP0.out)).mono ?_
      rintro e u1 ⟨rfl, hm⟩
      have N1 : Hid (Rv ((((w.alloc (.cells #[.int .i64 t.k, .string t.ch, .bool t.nt, .slice tA t.rows.length tc, .int .i64 t.mi, .int .i64 t.ma, .bool t.lz, .slice tB t.kids.length td] 25)).alloc (.cells #[.int .i64 0, .string ⟨#[]⟩, .bool false, .slice none 0 0, .int .i64 0, .int .i64 0, .bool false, .slice none 0 0] 25)).alloc (.cells #[.int .i64 t.k, .string t.ch, .bool t.nt, .slice tA t.rows.length tc, .int .i64 t.mi, .int .i64 t.ma, .bool t.lz, .slice tB t.kids.length td] 25)).alloc (.cells #[.int .i64 7, .string ⟨#[]⟩, .bool false, .slice none 0 0, .int .i64 (0), .int .i64 (-1), .bool false, .slice (some ⟨w.heap.size + 1 + 1, 0, none⟩) 1 1] 25)) u1 b zs l) := hide (N0.out.trans hm)
      clear hm
      go_wp2_with fail
      refine (HT2.out _ (N1.out.pl HP0.out)).mono ?_
      rintro e u2 ⟨rfl, hm⟩
      have N2 : Hid (Rv ((((w.alloc (.cells #[.int .i64 t.k, .string t.ch, .bool t.nt, .slice tA t.rows.length tc, .int .i64 t.mi, .int .i64 t.ma, .bool t.lz, .slice tB t.kids.length td] 25)).alloc (.cells #[.int .i64 0, .string ⟨#[]⟩, .bool false, .slice none 0 0, .int .i64 0, .int .i64 0, .bool false, .slice none 0 0] 25)).alloc (.cells #[.int .i64 t.k, .string t.ch, .bool t.nt, .slice tA t.rows.length tc, .int .i64 t.mi, .int .i64 t.ma, .bool t.lz, .slice tB t.kids.length td] 25)).alloc (.cells #[.int .i64 7, .string ⟨#[]⟩, .bool false, .slice none 0 0, .int .i64 (0), .int .i64 (-1), .bool false, .slice (some ⟨w.heap.size + 1 + 1, 0, none⟩) 1 1] 25)) u2 b zs l) := hide (N1.out.trans hm)
      clear hm
      go_wp2_with fail
      refine (HTT.out _ (N2.out.pl HP0.out)).mono ?_
      rintro e w2 ⟨rfl, hm⟩
      have M2 : Hid (Rv ((((w.alloc (.cells #[.int .i64 t.k, .string t.ch, .bool t.nt, .slice tA t.rows.length tc, .int .i64 t.mi, .int .i64 t.ma, .bool t.lz, .slice tB t.kids.length td] 25)).alloc (.cells #[.int .i64 0, .string ⟨#[]⟩, .bool false, .slice none 0 0, .int .i64 0, .int .i64 0, .bool false, .slice none 0 0] 25)).alloc (.cells #[.int .i64 t.k, .string t.ch, .bool t.nt, .slice tA t.rows.length tc, .int .i64 t.mi, .int .i64 t.ma, .bool t.lz, .slice tB t.kids.length td] 25)).alloc (.cells #[.int .i64 7, .string ⟨#[]⟩, .bool false, .slice none 0 0, .int .i64 (0), .int .i64 (-1), .bool false, .slice (some ⟨w.heap.size + 1 + 1, 0, none⟩) 1 1] 25)) w2 b zs r0) := hide (N2.out.trans hm)
      clear hm
      go_wp2_with fail
      refine (HN1.out _ (M2.out.pl HP0.out)).mono ?_
      rintro e w3 ⟨rfl, hm⟩
      have M3 : Hid (Rv ((((w.alloc (.cells #[.int .i64 t.k, .string t.ch, .bool t.nt, .slice tA t.rows.length tc, .int .i64 t.mi, .int .i64 t.ma, .bool t.lz, .slice tB t.kids.length td] 25)).alloc (.cells #[.int .i64 0, .string ⟨#[]⟩, .bool false, .slice none 0 0, .int .i64 0, .int .i64 0, .bool false, .slice none 0 0] 25)).alloc (.cells #[.int .i64 t.k, .string t.ch, .bool t.nt, .slice tA t.rows.length tc, .int .i64 t.mi, .int .i64 t.ma, .bool t.lz, .slice tB t.kids.length td] 25)).alloc (.cells #[.int .i64 7, .string ⟨#[]⟩, .bool false, .slice none 0 0, .int .i64 (0), .int .i64 (-1), .bool false, .slice (some ⟨w.heap.size + 1 + 1, 0, none⟩) 1 1] 25)) w3 b zs r) := hide (M2.out.trans hm)
      clear hm
      have Y3 := hide (Y0.out.mv M3.out.1 HB3.out)
      have Z3 := hide (Z0.out.mv M3.out.1 HB1.out)
      have K3 := hide (K0.out.mv M3.out.1 HB2.out)
      have M3w := hide (HSELF.out.trans M3.out)
      have M4p : Hid (Rv w ((w3.setCell ⟨w.heap.size + 1 + 1 + 1, 4, none⟩ (.int .i64 (n : Int))).setCell ⟨w.heap.size + 1 + 1 + 1, 5, none⟩ (.int .i64 (n : Int))) b zs r) := hide ((M3w.out.put HB3.out L3.out 4 (.int .i64 (n : Int))).put HB3.out L3.out 5 (.int .i64 (n : Int)))
      have Y4p : Hid (Cl ((w3.setCell ⟨w.heap.size + 1 + 1 + 1, 4, none⟩ (.int .i64 (n : Int))).setCell ⟨w.heap.size + 1 + 1 + 1, 5, none⟩ (.int .i64 (n : Int))) (w.heap.size + 1 + 1 + 1) [.int .i64 7, .string ⟨#[]⟩, .bool false, .slice none 0 0, .int .i64 ((n : Int)), .int .i64 ((n : Int)), .bool false, .slice (some ⟨w.heap.size + 1 + 1, 0, none⟩) 1 1]) := hide ((Y3.out.put 4 (.int .i64 (n : Int))).put 5 (.int .i64 (n : Int)))
      have Z4p : Hid (Cl ((w3.setCell ⟨w.heap.size + 1 + 1 + 1, 4, none⟩ (.int .i64 (n : Int))).setCell ⟨w.heap.size + 1 + 1 + 1, 5, none⟩ (.int .i64 (n : Int))) (w.heap.size + 1) [.int .i64 0, .string ⟨#[]⟩, .bool false, .slice none 0 0, .int .i64 0, .int .i64 0, .bool false, .slice none 0 0]) := hide ((Z3.out.off B13.out 4 (.int .i64 (n : Int))).off B13.out 5 (.int .i64 (n : Int)))
      have K4p : Hid (Cl ((w3.setCell ⟨w.heap.size + 1 + 1 + 1, 4, none⟩ (.int .i64 (n : Int))).setCell ⟨w.heap.size + 1 + 1 + 1, 5, none⟩ (.int .i64 (n : Int))) (w.heap.size + 1 + 1) t.cs) := hide ((K3.out.off B23.out 4 (.int .i64 (n : Int))).off B23.out 5 (.int .i64 (n : Int)))
      obtain ⟨y0, y1, y2, y3, y4, y5, y6, y7⟩ := Y3.out.eight
      have hf3 := Y3.out.f
      go_wp2_with fail
      refine (HC2.out _ (M4p.out.pl HS.out)).mono ?_
      rintro e w4 ⟨rfl, hm4⟩
      have M4 := hide (M4p.out.trans hm4)
      have Y4 := hide (Y4p.out.mv hm4.1 HB3.out)
      have Z4 := hide (Z4p.out.mv hm4.1 HB1.out)
      have K4 := hide (K4p.out.mv hm4.1 HB2.out)
      clear hm4
      clear y0 y1 y2 y3 y4 y5 y6 y7 hf3
      have M4v : Hid (Rv w (w4.setCell ⟨w.heap.size + 1 + 1 + 1, 5, none⟩ (.int .i64 (-1))) b zs _) := hide (M4.out.put HB3.out L3.out 5 (.int .i64 (-1)))
      have Y4v : Hid (Cl (w4.setCell ⟨w.heap.size + 1 + 1 + 1, 5, none⟩ (.int .i64 (-1))) (w.heap.size + 1 + 1 + 1) [.int .i64 7, .string ⟨#[]⟩, .bool false, .slice none 0 0, .int .i64 ((n : Int)), .int .i64 ((-1)), .bool false, .slice (some ⟨w.heap.size + 1 + 1, 0, none⟩) 1 1]) := hide (Y4.out.put 5 (.int .i64 (-1)))
      have Z4v := hide (Z4.out.off B13.out 5 (.int .i64 (-1)))
      have K4v := hide (K4.out.off B23.out 5 (.int .i64 (-1)))
      obtain ⟨y0, y1, y2, y3, y4, y5, y6, y7⟩ := Y4.out.eight
      have hf3 := Y4.out.f
      go_wp2_with fail
      refine (HSE.out _ (M4v.out.pl HS.out)).mono ?_
      rintro e w5 ⟨rfl, hb5⟩
      have M5 := hide (M4v.out.bl hb5)
      have Y5 := hide (Y4v.out.bl hb5)
      have Z5 := hide (Z4v.out.bl hb5)
      have K5 := hide (K4v.out.bl hb5)
      clear hb5
      clear y0 y1 y2 y3 y4 y5 y6 y7 hf3
      go_wp2_with fail
      refine (HN2.out _ (M5.out.pl HS.out)).mono ?_
      rintro e w6 ⟨rfl, hm6⟩
      have M6 := hide (M5.out.trans hm6)
      have Y6 := hide (Y5.out.mv hm6.1 HB3.out)
      have Z6 := hide (Z5.out.mv hm6.1 HB1.out)
      have K6 := hide (K5.out.mv hm6.1 HB2.out)
      clear hm6
      have M6v : Hid (Rv w (w6.setCell ⟨w.heap.size + 1 + 1 + 1, 5, none⟩ (.int .i64 (m : Int))) b zs _) := hide (M6.out.put HB3.out L3.out 5 (.int .i64 (m : Int)))
      have Y6v : Hid (Cl (w6.setCell ⟨w.heap.size + 1 + 1 + 1, 5, none⟩ (.int .i64 (m : Int))) (w.heap.size + 1 + 1 + 1) [.int .i64 7, .string ⟨#[]⟩, .bool false, .slice none 0 0, .int .i64 ((n : Int)), .int .i64 ((m : Int)), .bool false, .slice (some ⟨w.heap.size + 1 + 1, 0, none⟩) 1 1]) := hide (Y6.out.put 5 (.int .i64 (m : Int)))
      have Z6v := hide (Z6.out.off B13.out 5 (.int .i64 (m : Int)))
      have K6v := hide (K6.out.off B23.out 5 (.int .i64 (m : Int)))
      obtain ⟨y0, y1, y2, y3, y4, y5, y6, y7⟩ := Y6.out.eight
      have hf3 := Y6.out.f
      obtain ⟨z0, z1, z2, z3, z4, z5, z6, z7⟩ := Z6.out.eight
      have hf1 := Z6.out.f
      have HE := hide (mvd8 M6v.out.1 HB1.out L1.out 0 (.int .i64 0) 1 (.string ⟨#[]⟩) 2 (.bool false) 3 (.slice none 0 0) 4 (.int .i64 0) 5 (.int .i64 0) 6 (.bool false) 7 (.slice none 0 0))
      go_wp2
      refine bodyPost_ret (v := .tuple #[.agg #[.int .i64 0, .string ⟨#[]⟩, .bool false, .slice none 0 0, .int .i64 0, .int .i64 0, .bool false, .slice none 0 0], .int .i64 10]) ?_ rfl ⟨rfl, _, HE.out⟩
      rw [results_cell2 rfl]
      go_simp
    obtain ⟨q5, hq5⟩ : ∃ q, (hdC r5 == [125]) = q := ⟨_, rfl⟩
    have HT6 := hide (fun W (hp : Rp W b A c zs r5) => rr_take hp ⟨#[125]⟩ (by decide) q5 hq5)
    rw [hq5] at ho
    clear hq5
    cases q5
    · rw [if_neg (by simp)] at ho
      simp only at ho
      subst ho
      go_enter Try.func65, Try.ntmps65
      go_wp2_with fail
      refine (HT0.out _ HP0.out).mono ?_
      rintro e u0 ⟨rfl, hm⟩
      have N0 : Hid (Rv ((((w.alloc (.cells #[.int .i64 t.k, .string t.ch, .bool t.nt, .slice tA t.rows.length tc, .int .i64 t.mi, .int .i64 t.ma, .bool t.lz, .slice tB t.kids.length td] 25)).alloc (.cells #[.int .i64 0, .string ⟨#[]⟩, .bool false, .slice none 0 0, .int .i64 0, .int .i64 0, .bool false, .slice none 0 0] 25)).alloc (.cells #[.int .i64 t.k, .string t.ch, .bool t.nt, .slice tA t.rows.length tc, .int .i64 t.mi, .int .i64 t.ma, .bool t.lz, .slice tB t.kids.length td] 25)).alloc (.cells #[.int .i64 7, .string ⟨#[]⟩, .bool false, .slice none 0 0, .int .i64 (0), .int .i64 (-1), .bool false, .slice (some ⟨w.heap.size + 1 + 1, 0, none⟩) 1 1] 25)) u0 b zs l) := hide hm
      clear hm
      go_wp2_with fail
      refine (HT1.out _ (N0.out.pl HP0.out)).mono ?_
      rintro e u1 ⟨rfl, hm⟩
      have N1 : Hid (Rv ((((w.alloc (.cells #[.int .i64 t.k, .string t.ch, .bool t.nt, .slice tA t.rows.length tc, .int .i64 t.mi, .int .i64 t.ma, .bool t.lz, .slice tB t.kids.length td] 25)).alloc (.cells #[.int .i64 0, .string ⟨#[]⟩, .bool false, .slice none 0 0, .int .i64 0, .int .i64 0, .bool false, .slice none 0 0] 25)).alloc (.cells #[.int .i64 t.k, .string t.ch, .bool t.nt, .slice tA t.rows.length tc, .int .i64 t.mi, .int .i64 t.ma, .bool t.lz, .slice tB t.kids.length td] 25)).alloc (.cells #[.int .i64 7, .string ⟨#[]⟩, .bool false, .slice none 0 0, .int .i64 (0), .int .i64 (-1), .bool false, .slice (some ⟨w.heap.size + 1 + 1, 0, none⟩) 1 1] 25)) u1 b zs l) := hide (N0.out.trans hm)
      clear hm
      go_wp2_with fail
      refine (HT2.out _ (N1.out.pl HP0.out)).mono ?_
      rintro e u2 ⟨rfl, hm⟩
      have N2 : Hid (Rv ((((w.alloc (.cells #[.int .i64 t.k, .string t.ch, .bool t.nt, .slice tA t.rows.length tc, .int .i64 t.mi, .int .i64 t.ma, .bool t.lz, .slice tB t.kids.length td] 25)).alloc (.cells #[.int .i64 0, .string ⟨#[]⟩, .bool false, .slice none 0 0, .int .i64 0, .int .i64 0, .bool false, .slice none 0 0] 25)).alloc (.cells #[.int .i64 t.k, .string t.ch, .bool t.nt, .slice tA t.rows.length tc, .int .i64 t.mi, .int .i64 t.ma, .bool t.lz, .slice tB t.kids.length td] 25)).alloc (.cells #[.int .i64 7, .string ⟨#[]⟩, .bool false, .slice none 0 0, .int .i64 (0), .int .i64 (-1), .bool false, .slice (some ⟨w.heap.size + 1 + 1, 0, none⟩) 1 1] 25)) u2 b zs l) := hide (N1.out.trans hm)
      clear hm
      go_wp2_with fail
      refine (HTT.out _ (N2.out.pl HP0.out)).mono ?_
      rintro e w2 ⟨rfl, hm⟩
      have M2 : Hid (Rv ((((w.alloc (.cells #[.int .i64 t.k, .string t.ch, .bool t.nt, .slice tA t.rows.length tc, .int .i64 t.mi, .int .i64 t.ma, .bool t.lz, .slice tB t.kids.length td] 25)).alloc (.cells #[.int .i64 0, .string ⟨#[]⟩, .bool false, .slice none 0 0, .int .i64 0, .int .i64 0, .bool false, .slice none 0 0] 25)).alloc (.cells #[.int .i64 t.k, .string t.ch, .bool t.nt, .slice tA t.rows.length tc, .int .i64 t.mi, .int .i64 t.ma, .bool t.lz, .slice tB t.kids.length td] 25)).alloc (.cells #[.int .i64 7, .string ⟨#[]⟩, .bool false, .slice none 0 0, .int .i64 (0), .int .i64 (-1), .bool false, .slice (some ⟨w.heap.size + 1 + 1, 0, none⟩) 1 1] 25)) w2 b zs r0) := hide (N2.out.trans hm)
      clear hm
      go_wp2_with fail
      refine (HN1.out _ (M2.out.pl HP0.out)).mono ?_
      rintro e w3 ⟨rfl, hm⟩
      have M3 : Hid (Rv ((((w.alloc (.cells #[.int .i64 t.k, .string t.ch, .bool t.nt, .slice tA t.rows.length tc, .int .i64 t.mi, .int .i64 t.ma, .bool t.lz, .slice tB t.kids.length td] 25)).alloc (.cells #[.int .i64 0, .string ⟨#[]⟩, .bool false, .slice none 0 0, .int .i64 0, .int .i64 0, .bool false, .slice none 0 0] 25)).alloc (.cells #[.int .i64 t.k, .string t.ch, .bool t.nt, .slice tA t.rows.length tc, .int .i64 t.mi, .int .i64 t.ma, .bool t.lz, .slice tB t.kids.length td] 25)).alloc (.cells #[.int .i64 7, .string ⟨#[]⟩, .bool false, .slice none 0 0, .int .i64 (0), .int .i64 (-1), .bool false, .slice (some ⟨w.heap.size + 1 + 1, 0, none⟩) 1 1] 25)) w3 b zs r) := hide (M2.out.trans hm)
      clear hm
      have Y3 := hide (Y0.out.mv M3.out.1 HB3.out)
      have Z3 := hide (Z0.out.mv M3.out.1 HB1.out)
      have K3 := hide (K0.out.mv M3.out.1 HB2.out)
      have M3w := hide (HSELF.out.trans M3.out)
      have M4p : Hid (Rv w ((w3.setCell ⟨w.heap.size + 1 + 1 + 1, 4, none⟩ (.int .i64 (n : Int))).setCell ⟨w.heap.size + 1 + 1 + 1, 5, none⟩ (.int .i64 (n : Int))) b zs r) := hide ((M3w.out.put HB3.out L3.out 4 (.int .i64 (n : Int))).put HB3.out L3.out 5 (.int .i64 (n : Int)))
      have Y4p : Hid (Cl ((w3.setCell ⟨w.heap.size + 1 + 1 + 1, 4, none⟩ (.int .i64 (n : Int))).setCell ⟨w.heap.size + 1 + 1 + 1, 5, none⟩ (.int .i64 (n : Int))) (w.heap.size + 1 + 1 + 1) [.int .i64 7, .string ⟨#[]⟩, .bool false, .slice none 0 0, .int .i64 ((n : Int)), .int .i64 ((n : Int)), .bool false, .slice (some ⟨w.heap.size + 1 + 1, 0, none⟩) 1 1]) := hide ((Y3.out.put 4 (.int .i64 (n : Int))).put 5 (.int .i64 (n : Int)))
      have Z4p : Hid (Cl ((w3.setCell ⟨w.heap.size + 1 + 1 + 1, 4, none⟩ (.int .i64 (n : Int))).setCell ⟨w.heap.size + 1 + 1 + 1, 5, none⟩ (.int .i64 (n : Int))) (w.heap.size + 1) [.int .i64 0, .string ⟨#[]⟩, .bool false, .slice none 0 0, .int .i64 0, .int .i64 0, .bool false, .slice none 0 0]) := hide ((Z3.out.off B13.out 4 (.int .i64 (n : Int))).off B13.out 5 (.int .i64 (n : Int)))
      have K4p : Hid (Cl ((w3.setCell ⟨w.heap.size + 1 + 1 + 1, 4, none⟩ (.int .i64 (n : Int))).setCell ⟨w.heap.size + 1 + 1 + 1, 5, none⟩ (.int .i64 (n : Int))) (w.heap.size + 1 + 1) t.cs) := hide ((K3.out.off B23.out 4 (.int .i64 (n : Int))).off B23.out 5 (.int .i64 (n : Int)))
      obtain ⟨y0, y1, y2, y3, y4, y5, y6, y7⟩ := Y3.out.eight
      have hf3 := Y3.out.f
      go_wp2_with fail
      refine (HC2.out _ (M4p.out.pl HS.out)).mono ?_
      rintro e w4 ⟨rfl, hm4⟩
      have M4 := hide (M4p.out.trans hm4)
      have Y4 := hide (Y4p.out.mv hm4.1 HB3.out)
      have Z4 := hide (Z4p.out.mv hm4.1 HB1.out)
      have K4 := hide (K4p.out.mv hm4.1 HB2.out)
      clear hm4
      clear y0 y1 y2 y3 y4 y5 y6 y7 hf3
      have M4v : Hid (Rv w (w4.setCell ⟨w.heap.size + 1 + 1 + 1, 5, none⟩ (.int .i64 (-1))) b zs _) := hide (M4.out.put HB3.out L3.out 5 (.int .i64 (-1)))
      have Y4v : Hid (Cl (w4.setCell ⟨w.heap.size + 1 + 1 + 1, 5, none⟩ (.int .i64 (-1))) (w.heap.size + 1 + 1 + 1) [.int .i64 7, .string ⟨#[]⟩, .bool false, .slice none 0 0, .int .i64 ((n : Int)), .int .i64 ((-1)), .bool false, .slice (some ⟨w.heap.size + 1 + 1, 0, none⟩) 1 1]) := hide (Y4.out.put 5 (.int .i64 (-1)))
      have Z4v := hide (Z4.out.off B13.out 5 (.int .i64 (-1)))
      have K4v := hide (K4.out.off B23.out 5 (.int .i64 (-1)))
      obtain ⟨y0, y1, y2, y3, y4, y5, y6, y7⟩ := Y4.out.eight
      have hf3 := Y4.out.f
      go_wp2_with fail
      refine (HSE.out _ (M4v.out.pl HS.out)).mono ?_
      rintro e w5 ⟨rfl, hb5⟩
      have M5 := hide (M4v.out.bl hb5)
      have Y5 := hide (Y4v.out.bl hb5)
      have Z5 := hide (Z4v.out.bl hb5)
      have K5 := hide (K4v.out.bl hb5)
      clear hb5
      clear y0 y1 y2 y3 y4 y5 y6 y7 hf3
      go_wp2_with fail
      refine (HN2.out _ (M5.out.pl HS.out)).mono ?_
      rintro e w6 ⟨rfl, hm6⟩
      have M6 := hide (M5.out.trans hm6)
      have Y6 := hide (Y5.out.mv hm6.1 HB3.out)
      have Z6 := hide (Z5.out.mv hm6.1 HB1.out)
      have K6 := hide (K5.out.mv hm6.1 HB2.out)
      clear hm6
      have M6v : Hid (Rv w (w6.setCell ⟨w.heap.size + 1 + 1 + 1, 5, none⟩ (.int .i64 (m : Int))) b zs _) := hide (M6.out.put HB3.out L3.out 5 (.int .i64 (m : Int)))
      have Y6v : Hid (Cl (w6.setCell ⟨w.heap.size + 1 + 1 + 1, 5, none⟩ (.int .i64 (m : Int))) (w.heap.size + 1 + 1 + 1) [.int .i64 7, .string ⟨#[]⟩, .bool false, .slice none 0 0, .int .i64 ((n : Int)), .int .i64 ((m : Int)), .bool false, .slice (some ⟨w.heap.size + 1 + 1, 0, none⟩) 1 1]) := hide (Y6.out.put 5 (.int .i64 (m : Int)))
      have Z6v := hide (Z6.out.off B13.out 5 (.int .i64 (m : Int)))
      have K6v := hide (K6.out.off B23.out 5 (.int .i64 (m : Int)))
      obtain ⟨y0, y1, y2, y3, y4, y5, y6, y7⟩ := Y6.out.eight
      have hf3 := Y6.out.f
      go_wp2_with fail
      refine (HT6.out _ (M6v.out.pl HS.out)).mono ?_
      rintro e w7 ⟨rfl, hm7⟩
      have M7 := hide (M6v.out.trans hm7)
      have Y7 := hide (Y6v.out.mv hm7.1 HB3.out)
      have Z7 := hide (Z6v.out.mv hm7.1 HB1.out)
      have K7 := hide (K6v.out.mv hm7.1 HB2.out)
      clear hm7
      clear y0 y1 y2 y3 y4 y5 y6 y7 hf3
      obtain ⟨z0, z1, z2, z3, z4, z5, z6, z7⟩ := Z7.out.eight
      have hf1 := Z7.out.f
      have HE := hide (mvd8 M7.out.1 HB1.out L1.out 0 (.int .i64 0) 1 (.string ⟨#[]⟩) 2 (.bool false) 3 (.slice none 0 0) 4 (.int .i64 0) 5 (.int .i64 0) 6 (.bool false) 7 (.slice none 0 0))
      go_wp2
      refine bodyPost_ret (v := .tuple #[.agg #[.int .i64 0, .string ⟨#[]⟩, .bool false, .slice none 0 0, .int .i64 0, .int .i64 0, .bool false, .slice none 0 0], .int .i64 10]) ?_ rfl ⟨rfl, _, HE.out⟩
      rw [results_cell2 rfl]
      go_simp
    have hmn : (decide (n ≤ m) = false ∧ decide ((m : Int) < (n : Int)) = true ∧ decide (m < n) = true) ∨ (decide (n ≤ m) = true ∧ decide ((m : Int) < (n : Int)) = false ∧ decide (m < n) = false) := by
      by_cases h : n ≤ m
      · exact .inr ⟨decide_eq_true h, decide_eq_false (by omega), decide_eq_false (by omega)⟩
      · exact .inl ⟨decide_eq_false h, decide_eq_true (by omega), decide_eq_true (by omega)⟩
    rcases hmn with ⟨d0, d1, d2⟩ | ⟨d0, d1, d2⟩
    · rw [d0, if_neg (by decide)] at ho
      simp only at ho
      subst ho
      clear d0
      go_enter Try.func65, Try.ntmps65
      go_wp2_with fail
      refine (HT0.out _ HP0.out).mono ?_
      rintro e u0 ⟨rfl, hm⟩
      have N0 : Hid (Rv ((((w.alloc (.cells #[.int .i64 t.k, .string t.ch, .bool t.nt, .slice tA t.rows.length tc, .int .i64 t.mi, .int .i64 t.ma, .bool t.lz, .slice tB t.kids.length td] 25)).alloc (.cells #[.int .i64 0, .string ⟨#[]⟩, .bool false, .slice none 0 0, .int .i64 0, .int .i64 0, .bool false, .slice none 0 0] 25)).alloc (.cells #[.int .i64 t.k, .string t.ch, .bool t.nt, .slice tA t.rows.length tc, .int .i64 t.mi, .int .i64 t.ma, .bool t.lz, .slice tB t.kids.length td] 25)).alloc (.cells #[.int .i64 7, .string ⟨#[]⟩, .bool false, .slice none 0 0, .int .i64 (0), .int .i64 (-1), .bool false, .slice (some ⟨w.heap.size + 1 + 1, 0, none⟩) 1 1] 25)) u0 b zs l) := hide hm
      clear hm
      go_wp2_with fail
      refine (HT1.out _ (N0.out.pl HP0.out)).mono ?_
      rintro e u1 ⟨rfl, hm⟩
      have N1 : Hid (Rv ((((w.alloc (.cells #[.int .i64 t.k, .string t.ch, .bool t.nt, .slice tA t.rows.length tc, .int .i64 t.mi, .int .i64 t.ma, .bool t.lz, .slice tB t.kids.length td] 25)).alloc (.cells #[.int .i64 0, .string ⟨#[]⟩, .bool false, .slice none 0 0, .int .i64 0, .int .i64 0, .bool false, .slice none 0 0] 25)).alloc (.cells #[.int .i64 t.k, .string t.ch, .bool t.nt, .slice tA t.rows.length tc, .int .i64 t.mi, .int .i64 t.ma, .bool t.lz, .slice tB t.kids.length td] 25)).alloc (.cells #[.int .i64 7, .string ⟨#[]⟩, .bool false, .slice none 0 0, .int .i64 (0), .int .i64 (-1), .bool false, .slice (some ⟨w.heap.size + 1 + 1, 0, none⟩) 1 1] 25)) u1 b zs l) := hide (N0.out.trans hm)
      clear hm
      go_wp2_with fail
      refine (HT2.out _ (N1.out.pl HP0.out)).mono ?_
      rintro e u2 ⟨rfl, hm⟩
      have N2 : Hid (Rv ((((w.alloc (.cells #[.int .i64 t.k, .string t.ch, .bool t.nt, .slice tA t.rows.length tc, .int .i64 t.mi, .int .i64 t.ma, .bool t.lz, .slice tB t.kids.length td] 25)).alloc (.cells #[.int .i64 0, .string ⟨#[]⟩, .bool false, .slice none 0 0, .int .i64 0, .int .i64 0, .bool false, .slice none 0 0] 25)).alloc (.cells #[.int .i64 t.k, .string t.ch, .bool t.nt, .slice tA t.rows.length tc, .int .i64 t.mi, .int .i64 t.ma, .bool t.lz, .slice tB t.kids.length td] 25)).alloc (.cells #[.int .i64 7, .string ⟨#[]⟩, .bool false, .slice none 0 0, .int .i64 (0), .int .i64 (-1), .bool false, .slice (some ⟨w.heap.size + 1 + 1, 0, none⟩) 1 1] 25)) u2 b zs l) := hide (N1.out.trans hm)
      clear hm
      go_wp2_with fail
      refine (HTT.out _ (N2.out.pl HP0.out)).mono ?_
      rintro e w2 ⟨rfl, hm⟩
      have M2 : Hid (Rv ((((w.alloc (.cells #[.int .i64 t.k, .string t.ch, .bool t.nt, .slice tA t.rows.length tc, .int .i64 t.mi, .int .i64 t.ma, .bool t.lz, .slice tB t.kids.length td] 25)).alloc (.cells #[.int .i64 0, .string ⟨#[]⟩, .bool false, .slice none 0 0, .int .i64 0, .int .i64 0, .bool false, .slice none 0 0] 25)).alloc (.cells #[.int .i64 t.k, .string t.ch, .bool t.nt, .slice tA t.rows.length tc, .int .i64 t.mi, .int .i64 t.ma, .bool t.lz, .slice tB t.kids.length td] 25)).alloc (.cells #[.int .i64 7, .string ⟨#[]⟩, .bool false, .slice none 0 0, .int .i64 (0), .int .i64 (-1), .bool false, .slice (some ⟨w.heap.size + 1 + 1, 0, none⟩) 1 1] 25)) w2 b zs r0) := hide (N2.out.trans hm)
      clear hm
      go_wp2_with fail
      refine (HN1.out _ (M2.out.pl HP0.out)).mono ?_
      rintro e w3 ⟨rfl, hm⟩
      have M3 : Hid (Rv ((((w.alloc (.cells #[.int .i64 t.k, .string t.ch, .bool t.nt, .slice tA t.rows.length tc, .int .i64 t.mi, .int .i64 t.ma, .bool t.lz, .slice tB t.kids.length td] 25)).alloc (.cells #[.int .i64 0, .string ⟨#[]⟩, .bool false, .slice none 0 0, .int .i64 0, .int .i64 0, .bool false, .slice none 0 0] 25)).alloc (.cells #[.int .i64 t.k, .string t.ch, .bool t.nt, .slice tA t.rows.length tc, .int .i64 t.mi, .int .i64 t.ma, .bool t.lz, .slice tB t.kids.length td] 25)).alloc (.cells #[.int .i64 7, .string ⟨#[]⟩, .bool false, .slice none 0 0, .int .i64 (0), .int .i64 (-1), .bool false, .slice (some ⟨w.heap.size + 1 + 1, 0, none⟩) 1 1] 25)) w3 b zs r) := hide (M2.out.trans hm)
      clear hm
      have Y3 := hide (Y0.out.mv M3.out.1 HB3.out)
      have Z3 := hide (Z0.out.mv M3.out.1 HB1.out)
      have K3 := hide (K0.out.mv M3.out.1 HB2.out)
      have M3w := hide (HSELF.out.trans M3.out)
      have M4p : Hid (Rv w ((w3.setCell ⟨w.heap.size + 1 + 1 + 1, 4, none⟩ (.int .i64 (n : Int))).setCell ⟨w.heap.size + 1 + 1 + 1, 5, none⟩ (.int .i64 (n : Int))) b zs r) := hide ((M3w.out.put HB3.out L3.out 4 (.int .i64 (n : Int))).put HB3.out L3.out 5 (.int .i64 (n : Int)))
      have Y4p : Hid (Cl ((w3.setCell ⟨w.heap.size + 1 + 1 + 1, 4, none⟩ (.int .i64 (n : Int))).setCell ⟨w.heap.size + 1 + 1 + 1, 5, none⟩ (.int .i64 (n : Int))) (w.heap.size + 1 + 1 + 1) [.int .i64 7, .string ⟨#[]⟩, .bool false, .slice none 0 0, .int .i64 ((n : Int)), .int .i64 ((n : Int)), .bool false, .slice (some ⟨w.heap.size + 1 + 1, 0, none⟩) 1 1]) := hide ((Y3.out.put 4 (.int .i64 (n : Int))).put 5 (.int .i64 (n : Int)))
      have Z4p : Hid (Cl ((w3.setCell ⟨w.heap.size + 1 + 1 + 1, 4, none⟩ (.int .i64 (n : Int))).setCell ⟨w.heap.size + 1 + 1 + 1, 5, none⟩ (.int .i64 (n : Int))) (w.heap.size + 1) [.int .i64 0, .string ⟨#[]⟩, .bool false, .slice none 0 0, .int .i64 0, .int .i64 0, .bool false, .slice none 0 0]) := hide ((Z3.out.off B13.out 4 (.int .i64 (n : Int))).off B13.out 5 (.int .i64 (n : Int)))
      have K4p : Hid (Cl ((w3.setCell ⟨w.heap.size + 1 + 1 + 1, 4, none⟩ (.int .i64 (n : Int))).setCell ⟨w.heap.size + 1 + 1 + 1, 5, none⟩ (.int .i64 (n : Int))) (w.heap.size + 1 + 1) t.cs) := hide ((K3.out.off B23.out 4 (.int .i64 (n : Int))).off B23.out 5 (.int .i64 (n : Int)))
      obtain ⟨y0, y1, y2, y3, y4, y5, y6, y7⟩ := Y3.out.eight
      have hf3 := Y3.out.f
      go_wp2_with fail
      refine (HC2.out _ (M4p.out.pl HS.out)).mono ?_
      rintro e w4 ⟨rfl, hm4⟩
      have M4 := hide (M4p.out.trans hm4)
      have Y4 := hide (Y4p.out.mv hm4.1 HB3.out)
      have Z4 := hide (Z4p.out.mv hm4.1 HB1.out)
      have K4 := hide (K4p.out.mv hm4.1 HB2.out)
      clear hm4
      clear y0 y1 y2 y3 y4 y5 y6 y7 hf3
      have M4v : Hid (Rv w (w4.setCell ⟨w.heap.size + 1 + 1 + 1, 5, none⟩ (.int .i64 (-1))) b zs _) := hide (M4.out.put HB3.out L3.out 5 (.int .i64 (-1)))
      have Y4v : Hid (Cl (w4.setCell ⟨w.heap.size + 1 + 1 + 1, 5, none⟩ (.int .i64 (-1))) (w.heap.size + 1 + 1 + 1) [.int .i64 7, .string ⟨#[]⟩, .bool false, .slice none 0 0, .int .i64 ((n : Int)), .int .i64 ((-1)), .bool false, .slice (some ⟨w.heap.size + 1 + 1, 0, none⟩) 1 1]) := hide (Y4.out.put 5 (.int .i64 (-1)))
      have Z4v := hide (Z4.out.off B13.out 5 (.int .i64 (-1)))
      have K4v := hide (K4.out.off B23.out 5 (.int .i64 (-1)))
      obtain ⟨y0, y1, y2, y3, y4, y5, y6, y7⟩ := Y4.out.eight
      have hf3 := Y4.out.f
      go_wp2_with fail
      refine (HSE.out _ (M4v.out.pl HS.out)).mono ?_
      rintro e w5 ⟨rfl, hb5⟩
      have M5 := hide (M4v.out.bl hb5)
      have Y5 := hide (Y4v.out.bl hb5)
      have Z5 := hide (Z4v.out.bl hb5)
      have K5 := hide (K4v.out.bl hb5)
      clear hb5
      clear y0 y1 y2 y3 y4 y5 y6 y7 hf3
      go_wp2_with fail
      refine (HN2.out _ (M5.out.pl HS.out)).mono ?_
      rintro e w6 ⟨rfl, hm6⟩
      have M6 := hide (M5.out.trans hm6)
      have Y6 := hide (Y5.out.mv hm6.1 HB3.out)
      have Z6 := hide (Z5.out.mv hm6.1 HB1.out)
      have K6 := hide (K5.out.mv hm6.1 HB2.out)
      clear hm6
      have M6v : Hid (Rv w (w6.setCell ⟨w.heap.size + 1 + 1 + 1, 5, none⟩ (.int .i64 (m : Int))) b zs _) := hide (M6.out.put HB3.out L3.out 5 (.int .i64 (m : Int)))
      have Y6v : Hid (Cl (w6.setCell ⟨w.heap.size + 1 + 1 + 1, 5, none⟩ (.int .i64 (m : Int))) (w.heap.size + 1 + 1 + 1) [.int .i64 7, .string ⟨#[]⟩, .bool false, .slice none 0 0, .int .i64 ((n : Int)), .int .i64 ((m : Int)), .bool false, .slice (some ⟨w.heap.size + 1 + 1, 0, none⟩) 1 1]) := hide (Y6.out.put 5 (.int .i64 (m : Int)))
      have Z6v := hide (Z6.out.off B13.out 5 (.int .i64 (m : Int)))
      have K6v := hide (K6.out.off B23.out 5 (.int .i64 (m : Int)))
      obtain ⟨y0, y1, y2, y3, y4, y5, y6, y7⟩ := Y6.out.eight
      have hf3 := Y6.out.f
      go_wp2_with fail
      refine (HT6.out _ (M6v.out.pl HS.out)).mono ?_
      rintro e w7 ⟨rfl, hm7⟩
      have M7 := hide (M6v.out.trans hm7)
      have Y7 := hide (Y6v.out.mv hm7.1 HB3.out)
      have Z7 := hide (Z6v.out.mv hm7.1 HB1.out)
      have K7 := hide (K6v.out.mv hm7.1 HB2.out)
      clear hm7
      clear y0 y1 y2 y3 y4 y5 y6 y7 hf3
      obtain ⟨y0, y1, y2, y3, y4, y5, y6, y7⟩ := Y7.out.eight
      have hf3 := Y7.out.f
      obtain ⟨z0, z1, z2, z3, z4, z5, z6, z7⟩ := Z7.out.eight
      have hf1 := Z7.out.f
      have HE := hide (mvd8 M7.out.1 HB1.out L1.out 0 (.int .i64 0) 1 (.string ⟨#[]⟩) 2 (.bool false) 3 (.slice none 0 0) 4 (.int .i64 0) 5 (.int .i64 0) 6 (.bool false) 7 (.slice none 0 0))
      go_wp2
      refine bodyPost_ret (v := .tuple #[.agg #[.int .i64 0, .string ⟨#[]⟩, .bool false, .slice none 0 0, .int .i64 0, .int .i64 0, .bool false, .slice none 0 0], .int .i64 10]) ?_ rfl ⟨rfl, _, HE.out⟩
      rw [results_cell2 rfl]
      go_simp
    · rw [d0, if_pos (by decide)] at ho
      simp only at ho
      clear d0
      obtain ⟨r4, hr4⟩ : ∃ r4, tlC r5 = r4 := ⟨_, rfl⟩
      simp only [if_true] at HT6
      rw [hr4] at ho HT6
      clear hr4
      unfold lazP at ho
      obtain ⟨lz, hlz⟩ : ∃ q, (hdC r4 == [63]) = q := ⟨_, rfl⟩
      have HTQ := hide (fun W (hp : Rp W b A c zs r4) => rr_take hp ⟨#[63]⟩ (by decide) lz hlz)
      rw [hlz] at ho
      obtain ⟨r2, hr2⟩ : ∃ r2, (if lz = true then tlC r4 else r4) = r2 := ⟨_, rfl⟩
      rw [hr2] at ho HTQ
      subst ho
      clear hlz hr2
      go_enter Try.func65, Try.ntmps65
      go_wp2_with fail
      refine (HT0.out _ HP0.out).mono ?_
      rintro e u0 ⟨rfl, hm⟩
      have N0 : Hid (Rv ((((w.alloc (.cells #[.int .i64 t.k, .string t.ch, .bool t.nt, .slice tA t.rows.length tc, .int .i64 t.mi, .int .i64 t.ma, .bool t.lz, .slice tB t.kids.length td] 25)).alloc (.cells #[.int .i64 0, .string ⟨#[]⟩, .bool false, .slice none 0 0, .int .i64 0, .int .i64 0, .bool false, .slice none 0 0] 25)).alloc (.cells #[.int .i64 t.k, .string t.ch, .bool t.nt, .slice tA t.rows.length tc, .int .i64 t.mi, .int .i64 t.ma, .bool t.lz, .slice tB t.kids.length td] 25)).alloc (.cells #[.int .i64 7, .string ⟨#[]⟩, .bool false, .slice none 0 0, .int .i64 (0), .int .i64 (-1), .bool false, .slice (some ⟨w.heap.size + 1 + 1, 0, none⟩) 1 1] 25)) u0 b zs l) := hide hm
      clear hm
      go_wp2_with fail
      refine (HT1.out _ (N0.out.pl HP0.out)).mono ?_
      rintro e u1 ⟨rfl, hm⟩
      have N1 : Hid (Rv ((((w.alloc (.cells #[.int .i64 t.k, .string t.ch, .bool t.nt, .slice tA t.rows.length tc, .int .i64 t.mi, .int .i64 t.ma, .bool t.lz, .slice tB t.kids.length td] 25)).alloc (.cells #[.int .i64 0, .string ⟨#[]⟩, .bool false, .slice none 0 0, .int .i64 0, .int .i64 0, .bool false, .slice none 0 0] 25)).alloc (.cells #[.int .i64 t.k, .string t.ch, .bool t.nt, .slice tA t.rows.length tc, .int .i64 t.mi, .int .i64 t.ma, .bool t.lz, .slice tB t.kids.length td] 25)).alloc (.cells #[.int .i64 7, .string ⟨#[]⟩, .bool false, .slice none 0 0, .int .i64 (0), .int .i64 (-1), .bool false, .slice (some ⟨w.heap.size + 1 + 1, 0, none⟩) 1 1] 25)) u1 b zs l) := hide (N0.out.trans hm)
      clear hm
      go_wp2_with fail
      refine (HT2.out _ (N1.out.pl HP0.out)).mono ?_
      rintro e u2 ⟨rfl, hm⟩
      have N2 : Hid (Rv ((((w.alloc (.cells #[.int .i64 t.k, .string t.ch, .bool t.nt, .slice tA t.rows.length tc, .int .i64 t.mi, .int .i64 t.ma, .bool t.lz, .slice tB t.kids.length td] 25)).alloc (.cells #[.int .i64 0, .string ⟨#[]⟩, .bool false, .slice none 0 0, .int .i64 0, .int .i64 0, .bool false, .slice none 0 0] 25)).alloc (.cells #[.int .i64 t.k, .string t.ch, .bool t.nt, .slice tA t.rows.length tc, .int .i64 t.mi, .int .i64 t.ma, .bool t.lz, .slice tB t.kids.length td] 25)).alloc (.cells #[.int .i64 7, .string ⟨#[]⟩, .bool false, .slice none 0 0, .int .i64 (0), .int .i64 (-1), .bool false, .slice (some ⟨w.heap.size + 1 + 1, 0, none⟩) 1 1] 25)) u2 b zs l) := hide (N1.out.trans hm)
      clear hm
      go_wp2_with fail
      refine (HTT.out _ (N2.out.pl HP0.out)).mono ?_
      rintro e w2 ⟨rfl, hm⟩
      have M2 : Hid (Rv ((((w.alloc (.cells #[.int .i64 t.k, .string t.ch, .bool t.nt, .slice tA t.rows.length tc, .int .i64 t.mi, .int .i64 t.ma, .bool t.lz, .slice tB t.kids.length td] 25)).alloc (.cells #[.int .i64 0, .string ⟨#[]⟩, .bool false, .slice none 0 0, .int .i64 0, .int .i64 0, .bool false, .slice none 0 0] 25)).alloc (.cells #[.int .i64 t.k, .string t.ch, .bool t.nt, .slice tA t.rows.length tc, .int .i64 t.mi, .int .i64 t.ma, .bool t.lz, .slice tB t.kids.length td] 25)).alloc (.cells #[.int .i64 7, .string ⟨#[]⟩, .bool false, .slice none 0 0, .int .i64 (0), .int .i64 (-1), .bool false, .slice (some ⟨w.heap.size + 1 + 1, 0, none⟩) 1 1] 25)) w2 b zs r0) := hide (N2.out.trans hm)
      clear hm
      go_wp2_with fail
      refine (HN1.out _ (M2.out.pl HP0.out)).mono ?_
      rintro e w3 ⟨rfl, hm⟩
      have M3 : Hid (Rv ((((w.alloc (.cells #[.int .i64 t.k, .string t.ch, .bool t.nt, .slice tA t.rows.length tc, .int .i64 t.mi, .int .i64 t.ma, .bool t.lz, .slice tB t.kids.length td] 25)).alloc (.cells #[.int .i64 0, .string ⟨#[]⟩, .bool false, .slice none 0 0, .int .i64 0, .int .i64 0, .bool false, .slice none 0 0] 25)).alloc (.cells #[.int .i64 t.k, .string t.ch, .bool t.nt, .slice tA t.rows.length tc, .int .i64 t.mi, .int .i64 t.ma, .bool t.lz, .slice tB t.kids.length td] 25)).alloc (.cells #[.int .i64 7, .string ⟨#[]⟩, .bool false, .slice none 0 0, .int .i64 (0), .int .i64 (-1), .bool false, .slice (some ⟨w.heap.size + 1 + 1, 0, none⟩) 1 1] 25)) w3 b zs r) := hide (M2.out.trans hm)
      clear hm
      have Y3 := hide (Y0.out.mv M3.out.1 HB3.out)
      have Z3 := hide (Z0.out.mv M3.out.1 HB1.out)
      have K3 := hide (K0.out.mv M3.out.1 HB2.out)
      have M3w := hide (HSELF.out.trans M3.out)
      have M4p : Hid (Rv w ((w3.setCell ⟨w.heap.size + 1 + 1 + 1, 4, none⟩ (.int .i64 (n : Int))).setCell ⟨w.heap.size + 1 + 1 + 1, 5, none⟩ (.int .i64 (n : Int))) b zs r) := hide ((M3w.out.put HB3.out L3.out 4 (.int .i64 (n : Int))).put HB3.out L3.out 5 (.int .i64 (n : Int)))
      have Y4p : Hid (Cl ((w3.setCell ⟨w.heap.size + 1 + 1 + 1, 4, none⟩ (.int .i64 (n : Int))).setCell ⟨w.heap.size + 1 + 1 + 1, 5, none⟩ (.int .i64 (n : Int))) (w.heap.size + 1 + 1 + 1) [.int .i64 7, .string ⟨#[]⟩, .bool false, .slice none 0 0, .int .i64 ((n : Int)), .int .i64 ((n : Int)), .bool false, .slice (some ⟨w.heap.size + 1 + 1, 0, none⟩) 1 1]) := hide ((Y3.out.put 4 (.int .i64 (n : Int))).put 5 (.int .i64 (n : Int)))
      have Z4p : Hid (Cl ((w3.setCell ⟨w.heap.size + 1 + 1 + 1, 4, none⟩ (.int .i64 (n : Int))).setCell ⟨w.heap.size + 1 + 1 + 1, 5, none⟩ (.int .i64 (n : Int))) (w.heap.size + 1) [.int .i64 0, .string ⟨#[]⟩, .bool false, .slice none 0 0, .int .i64 0, .int .i64 0, .bool false, .slice none 0 0]) := hide ((Z3.out.off B13.out 4 (.int .i64 (n : Int))).off B13.out 5 (.int .i64 (n : Int)))
      have K4p : Hid (Cl ((w3.setCell ⟨w.heap.size + 1 + 1 + 1, 4, none⟩ (.int .i64 (n : Int))).setCell ⟨w.heap.size + 1 + 1 + 1, 5, none⟩ (.int .i64 (n : Int))) (w.heap.size + 1 + 1) t.cs) := hide ((K3.out.off B23.out 4 (.int .i64 (n : Int))).off B23.out 5 (.int .i64 (n : Int)))
      obtain ⟨y0, y1, y2, y3, y4, y5, y6, y7⟩ := Y3.out.eight
      have hf3 := Y3.out.f
      go_wp2_with fail
      refine (HC2.out _ (M4p.out.pl HS.out)).mono ?_
      rintro e w4 ⟨rfl, hm4⟩
      have M4 := hide (M4p.out.trans hm4)
      have Y4 := hide (Y4p.out.mv hm4.1 HB3.out)
      have Z4 := hide (Z4p.out.mv hm4.1 HB1.out)
      have K4 := hide (K4p.out.mv hm4.1 HB2.out)
      clear hm4
      clear y0 y1 y2 y3 y4 y5 y6 y7 hf3
      have M4v : Hid (Rv w (w4.setCell ⟨w.heap.size + 1 + 1 + 1, 5, none⟩ (.int .i64 (-1))) b zs _) := hide (M4.out.put HB3.out L3.out 5 (.int .i64 (-1)))
      have Y4v : Hid (Cl (w4.setCell ⟨w.heap.size + 1 + 1 + 1, 5, none⟩ (.int .i64 (-1))) (w.heap.size + 1 + 1 + 1) [.int .i64 7, .string ⟨#[]⟩, .bool false, .slice none 0 0, .int .i64 ((n : Int)), .int .i64 ((-1)), .bool false, .slice (some ⟨w.heap.size + 1 + 1, 0, none⟩) 1 1]) := hide (Y4.out.put 5 (.int .i64 (-1)))
      have Z4v := hide (Z4.out.off B13.out 5 (.int .i64 (-1)))
      have K4v := hide (K4.out.off B23.out 5 (.int .i64 (-1)))
      obtain ⟨y0, y1, y2, y3, y4, y5, y6, y7⟩ := Y4.out.eight
      have hf3 := Y4.out.f
      go_wp2_with fail
      refine (HSE.out _ (M4v.out.pl HS.out)).mono ?_
      rintro e w5 ⟨rfl, hb5⟩
      have M5 := hide (M4v.out.bl hb5)
      have Y5 := hide (Y4v.out.bl hb5)
      have Z5 := hide (Z4v.out.bl hb5)
      have K5 := hide (K4v.out.bl hb5)
      clear hb5
      clear y0 y1 y2 y3 y4 y5 y6 y7 hf3
      go_wp2_with fail
      refine (HN2.out _ (M5.out.pl HS.out)).mono ?_
      rintro e w6 ⟨rfl, hm6⟩
      have M6 := hide (M5.out.trans hm6)
      have Y6 := hide (Y5.out.mv hm6.1 HB3.out)
      have Z6 := hide (Z5.out.mv hm6.1 HB1.out)
      have K6 := hide (K5.out.mv hm6.1 HB2.out)
      clear hm6
      have M6v : Hid (Rv w (w6.setCell ⟨w.heap.size + 1 + 1 + 1, 5, none⟩ (.int .i64 (m : Int))) b zs _) := hide (M6.out.put HB3.out L3.out 5 (.int .i64 (m : Int)))
      have Y6v : Hid (Cl (w6.setCell ⟨w.heap.size + 1 + 1 + 1, 5, none⟩ (.int .i64 (m : Int))) (w.heap.size + 1 + 1 + 1) [.int .i64 7, .string ⟨#[]⟩, .bool false, .slice none 0 0, .int .i64 ((n : Int)), .int .i64 ((m : Int)), .bool false, .slice (some ⟨w.heap.size + 1 + 1, 0, none⟩) 1 1]) := hide (Y6.out.put 5 (.int .i64 (m : Int)))
      have Z6v := hide (Z6.out.off B13.out 5 (.int .i64 (m : Int)))
      have K6v := hide (K6.out.off B23.out 5 (.int .i64 (m : Int)))
      obtain ⟨y0, y1, y2, y3, y4, y5, y6, y7⟩ := Y6.out.eight
      have hf3 := Y6.out.f
      go_wp2_with fail
      refine (HT6.out _ (M6v.out.pl HS.out)).mono ?_
      rintro e w7 ⟨rfl, hm7⟩
      have M7 := hide (M6v.out.trans hm7)
      have Y7 := hide (Y6v.out.mv hm7.1 HB3.out)
      have Z7 := hide (Z6v.out.mv hm7.1 HB1.out)
      have K7 := hide (K6v.out.mv hm7.1 HB2.out)
      clear hm7
      clear y0 y1 y2 y3 y4 y5 y6 y7 hf3
      obtain ⟨y0, y1, y2, y3, y4, y5, y6, y7⟩ := Y7.out.eight
      have hf3 := Y7.out.f
      go_wp2_with fail
      refine (HTQ.out _ (M7.out.pl HS.out)).mono ?_
      rintro e w9 ⟨rfl, hm9⟩
      have M9 := hide (M7.out.trans hm9)
      have Y9 := hide (Y7.out.mv hm9.1 HB3.out)
      have Z9 := hide (Z7.out.mv hm9.1 HB1.out)
      have K9 := hide (K7.out.mv hm9.1 HB2.out)
      clear hm9
      clear y0 y1 y2 y3 y4 y5 y6 y7 hf3
      obtain ⟨y0, y1, y2, y3, y4, y5, y6, y7⟩ := Y9.out.eight
      have hf3 := Y9.out.f
      obtain ⟨z0, z1, z2, z3, z4, z5, z6, z7⟩ := Z9.out.eight
      have hf1 := Z9.out.f
      have HM8 := hide (rv8 (M9.out.put (g := w.heap.size + 1 + 1 + 1) HB3.out L3.out 6 (.bool lz)) HB1.out L1.out 0 (.int .i64 7) 1 (.string ⟨#[]⟩) 2 (.bool false) 3 (.slice none 0 0) 4 (.int .i64 ((n : Int))) 5 (.int .i64 ((m : Int))) 6 (.bool lz) 7 (.slice (some ⟨w.heap.size + 1 + 1, 0, none⟩) 1 1))
      have HEND := hide (rrep_end (g := w.heap.size + 1 + 1) (mi := (n : Int)) (ma := (m : Int)) (lz := lz) HM8.out HBN.out HN.out HT.out HF.out (Nat.le_trans HN.out (by omega)) (fun j u hu => set8 (set_blk (K9.out.c j u hu) B23.out) B12.out))
      go_wp2
      refine bodyPost_ret (v := .tuple #[.agg #[.int .i64 7, .string ⟨#[]⟩, .bool false, .slice none 0 0, .int .i64 (n : Int), .int .i64 (m : Int), .bool lz, .slice (some ⟨w.heap.size + 1 + 1, 0, none⟩) 1 1], .int .i64 0]) ?_ rfl HEND.out
      rw [results_cell2 rfl]
      go_simp
  rw [if_neg (by decide)] at ho
  obtain ⟨q3, hq3⟩ : ∃ q, (hdC r == [125]) = q := ⟨_, rfl⟩
  have HC3 := hide (fun W (hp : Rp W b A c zs r) => rr_take hp ⟨#[125]⟩ (by decide) q3 hq3)
  rw [hq3] at ho
  clear hq3
  cases q3
  · rw [if_neg (by decide)] at ho
    simp only at ho
    subst ho
    go_enter Try.func65, Try.ntmps65
    go_wp2_with fail
    refine (HT0.out _ HP0.out).mono ?_
    rintro e u0 ⟨rfl, hm⟩
    have N0 : Hid (Rv ((((w.alloc (.cells #[.int .i64 t.k, .string t.ch, .bool t.nt, .slice tA t.rows.length tc, .int .i64 t.mi, .int .i64 t.ma, .bool t.lz, .slice tB t.kids.length td] 25)).alloc (.cells #[.int .i64 0, .string ⟨#[]⟩, .bool false, .slice none 0 0, .int .i64 0, .int .i64 0, .bool false, .slice none 0 0] 25)).alloc (.cells #[.int .i64 t.k, .string t.ch, .bool t.nt, .slice tA t.rows.length tc, .int .i64 t.mi, .int .i64 t.ma, .bool t.lz, .slice tB t.kids.length td] 25)).alloc (.cells #[.int .i64 7, .string ⟨#[]⟩, .bool false, .slice none 0 0, .int .i64 (0), .int .i64 (-1), .bool false, .slice (some ⟨w.heap.size + 1 + 1, 0, none⟩) 1 1] 25)) u0 b zs l) := hide hm
    clear hm
    go_wp2_with fail
    refine (HT1.out _ (N0.out.pl HP0.out)).mono ?_
    rintro e u1 ⟨rfl, hm⟩
    have N1 : Hid (Rv ((((w.alloc (.cells #[.int .i64 t.k, .string t.ch, .bool t.nt, .slice tA t.rows.length tc, .int .i64 t.mi, .int .i64 t.ma, .bool t.lz, .slice tB t.kids.length td] 25)).alloc (.cells #[.int .i64 0, .string ⟨#[]⟩, .bool false, .slice none 0 0, .int .i64 0, .int .i64 0, .bool false, .slice none 0 0] 25)).alloc (.cells #[.int .i64 t.k, .string t.ch, .bool t.nt, .slice tA t.rows.length tc, .int .i64 t.mi, .int .i64 t.ma, .bool t.lz, .slice tB t.kids.length td] 25)).alloc (.cells #[.int .i64 7, .string ⟨#[]⟩, .bool false, .slice none 0 0, .int .i64 (0), .int .i64 (-1), .bool false, .slice (some ⟨w.heap.size + 1 + 1, 0, none⟩) 1 1] 25)) u1 b zs l) := hide (N0.out.trans hm)
    clear hm
    go_wp2_with fail
    refine (HT2.out _ (N1.out.pl HP0.out)).mono ?_
    rintro e u2 ⟨rfl, hm⟩
    have N2 : Hid (Rv ((((w.alloc (.cells #[.int .i64 t.k, .string t.ch, .bool t.nt, .slice tA t.rows.length tc, .int .i64 t.mi, .int .i64 t.ma, .bool t.lz, .slice tB t.kids.length td] 25)).alloc (.cells #[.int .i64 0, .string ⟨#[]⟩, .bool false, .slice none 0 0, .int .i64 0, .int .i64 0, .bool false, .slice none 0 0] 25)).alloc (.cells #[.int .i64 t.k, .string t.ch, .bool t.nt, .slice tA t.rows.length tc, .int .i64 t.mi, .int .i64 t.ma, .bool t.lz, .slice tB t.kids.length td] 25)).alloc (.cells #[.int .i64 7, .string ⟨#[]⟩, .bool false, .slice none 0 0, .int .i64 (0), .int .i64 (-1), .bool false, .slice (some ⟨w.heap.size + 1 + 1, 0, none⟩) 1 1] 25)) u2 b zs l) := hide (N1.out.trans hm)
    clear hm
    go_wp2_with fail
    refine (HTT.out _ (N2.out.pl HP0.out)).mono ?_
    rintro e w2 ⟨rfl, hm⟩
    have M2 : Hid (Rv ((((w.alloc (.cells #[.int .i64 t.k, .string t.ch, .bool t.nt, .slice tA t.rows.length tc, .int .i64 t.mi, .int .i64 t.ma, .bool t.lz, .slice tB t.kids.length td] 25)).alloc (.cells #[.int .i64 0, .string ⟨#[]⟩, .bool false, .slice none 0 0, .int .i64 0, .int .i64 0, .bool false, .slice none 0 0] 25)).alloc (.cells #[.int .i64 t.k, .string t.ch, .bool t.nt, .slice tA t.rows.length tc, .int .i64 t.mi, .int .i64 t.ma, .bool t.lz, .slice tB t.kids.length td] 25)).alloc (.cells #[.int .i64 7, .string ⟨#[]⟩, .bool false, .slice none 0 0, .int .i64 (0), .int .i64 (-1), .bool false, .slice (some ⟨w.heap.size + 1 + 1, 0, none⟩) 1 1] 25)) w2 b zs r0) := hide (N2.out.trans hm)
    clear hm
    go_wp2_with fail
    refine (HN1.out _ (M2.out.pl HP0.out)).mono ?_
    rintro e w3 ⟨rfl, hm⟩
    have M3 : Hid (Rv ((((w.alloc (.cells #[.int .i64 t.k, .string t.ch, .bool t.nt, .slice tA t.rows.length tc, .int .i64 t.mi, .int .i64 t.ma, .bool t.lz, .slice tB t.kids.length td] 25)).alloc (.cells #[.int .i64 0, .string ⟨#[]⟩, .bool false, .slice none 0 0, .int .i64 0, .int .i64 0, .bool false, .slice none 0 0] 25)).alloc (.cells #[.int .i64 t.k, .string t.ch, .bool t.nt, .slice tA t.rows.length tc, .int .i64 t.mi, .int .i64 t.ma, .bool t.lz, .slice tB t.kids.length td] 25)).alloc (.cells #[.int .i64 7, .string ⟨#[]⟩, .bool false, .slice none 0 0, .int .i64 (0), .int .i64 (-1), .bool false, .slice (some ⟨w.heap.size + 1 + 1, 0, none⟩) 1 1] 25)) w3 b zs r) := hide (M2.out.trans hm)
    clear hm
    have Y3 := hide (Y0.out.mv M3.out.1 HB3.out)
    have Z3 := hide (Z0.out.mv M3.out.1 HB1.out)
    have K3 := hide (K0.out.mv M3.out.1 HB2.out)
    have M3w := hide (HSELF.out.trans M3.out)
    have M4p : Hid (Rv w ((w3.setCell ⟨w.heap.size + 1 + 1 + 1, 4, none⟩ (.int .i64 (n : Int))).setCell ⟨w.heap.size + 1 + 1 + 1, 5, none⟩ (.int .i64 (n : Int))) b zs r) := hide ((M3w.out.put HB3.out L3.out 4 (.int .i64 (n : Int))).put HB3.out L3.out 5 (.int .i64 (n : Int)))
    have Y4p : Hid (Cl ((w3.setCell ⟨w.heap.size + 1 + 1 + 1, 4, none⟩ (.int .i64 (n : Int))).setCell ⟨w.heap.size + 1 + 1 + 1, 5, none⟩ (.int .i64 (n : Int))) (w.heap.size + 1 + 1 + 1) [.int .i64 7, .string ⟨#[]⟩, .bool false, .slice none 0 0, .int .i64 ((n : Int)), .int .i64 ((n : Int)), .bool false, .slice (some ⟨w.heap.size + 1 + 1, 0, none⟩) 1 1]) := hide ((Y3.out.put 4 (.int .i64 (n : Int))).put 5 (.int .i64 (n : Int)))
    have Z4p : Hid (Cl ((w3.setCell ⟨w.heap.size + 1 + 1 + 1, 4, none⟩ (.int .i64 (n : Int))).setCell ⟨w.heap.size + 1 + 1 + 1, 5, none⟩ (.int .i64 (n : Int))) (w.heap.size + 1) [.int .i64 0, .string ⟨#[]⟩, .bool false, .slice none 0 0, .int .i64 0, .int .i64 0, .bool false, .slice none 0 0]) := hide ((Z3.out.off B13.out 4 (.int .i64 (n : Int))).off B13.out 5 (.int .i64 (n : Int)))
    have K4p : Hid (Cl ((w3.setCell ⟨w.heap.size + 1 + 1 + 1, 4, none⟩ (.int .i64 (n : Int))).setCell ⟨w.heap.size + 1 + 1 + 1, 5, none⟩ (.int .i64 (n : Int))) (w.heap.size + 1 + 1) t.cs) := hide ((K3.out.off B23.out 4 (.int .i64 (n : Int))).off B23.out 5 (.int .i64 (n : Int)))
    obtain ⟨y0, y1, y2, y3, y4, y5, y6, y7⟩ := Y3.out.eight
    have hf3 := Y3.out.f
    go_wp2_with fail
    refine (HC2.out _ (M4p.out.pl HS.out)).mono ?_
    rintro e w4 ⟨rfl, hm4⟩
    have M4 := hide (M4p.out.trans hm4)
    have Y4 := hide (Y4p.out.mv hm4.1 HB3.out)
    have Z4 := hide (Z4p.out.mv hm4.1 HB1.out)
    have K4 := hide (K4p.out.mv hm4.1 HB2.out)
    clear hm4
    clear y0 y1 y2 y3 y4 y5 y6 y7 hf3
    go_wp2_with fail
    refine (HC3.out _ (M4.out.pl HS.out)).mono ?_
    rintro e w5 ⟨rfl, hm5⟩
    have M5 := hide (M4.out.trans hm5)
    have Y5 := hide (Y4.out.mv hm5.1 HB3.out)
    have Z5 := hide (Z4.out.mv hm5.1 HB1.out)
    have K5 := hide (K4.out.mv hm5.1 HB2.out)
    clear hm5
    obtain ⟨z0, z1, z2, z3, z4, z5, z6, z7⟩ := Z5.out.eight
    have hf1 := Z5.out.f
    have HE := hide (mvd8 M5.out.1 HB1.out L1.out 0 (.int .i64 0) 1 (.string ⟨#[]⟩) 2 (.bool false) 3 (.slice none 0 0) 4 (.int .i64 0) 5 (.int .i64 0) 6 (.bool false) 7 (.slice none 0 0))
    go_wp2
    refine bodyPost_ret (v := .tuple #[.agg #[.int .i64 0, .string ⟨#[]⟩, .bool false, .slice none 0 0, .int .i64 0, .int .i64 0, .bool false, .slice none 0 0], .int .i64 10]) ?_ rfl ⟨rfl, _, HE.out⟩
    rw [results_cell2 rfl]
    go_simp
  · rw [if_pos rfl] at ho
    simp only at ho
    obtain ⟨r4, hr4⟩ : ∃ r4, tlC r = r4 := ⟨_, rfl⟩
    simp only [if_true] at HC3
    rw [hr4] at ho HC3
    clear hr4
    unfold lazP at ho
    obtain ⟨lz, hlz⟩ : ∃ q, (hdC r4 == [63]) = q := ⟨_, rfl⟩
    have HTQ := hide (fun W (hp : Rp W b A c zs r4) => rr_take hp ⟨#[63]⟩ (by decide) lz hlz)
    rw [hlz] at ho
    obtain ⟨r2, hr2⟩ : ∃ r2, (if lz = true then tlC r4 else r4) = r2 := ⟨_, rfl⟩
    rw [hr2] at ho HTQ
    subst ho
    clear hlz hr2
    go_enter Try.func65, Try.ntmps65
    go_wp2_with fail
    refine (HT0.out _ HP0.out).mono ?_
    rintro e u0 ⟨rfl, hm⟩
    have N0 : Hid (Rv ((((w.alloc (.cells #[.int .i64 t.k, .string t.ch, .bool t.nt, .slice tA t.rows.length tc, .int .i64 t.mi, .int .i64 t.ma, .bool t.lz, .slice tB t.kids.length td] 25)).alloc (.cells #[.int .i64 0, .string ⟨#[]⟩, .bool false, .slice none 0 0, .int .i64 0, .int .i64 0, .bool false, .slice none 0 0] 25)).alloc (.cells #[.int .i64 t.k, .string t.ch, .bool t.nt, .slice tA t.rows.length tc, .int .i64 t.mi, .int .i64 t.ma, .bool t.lz, .slice tB t.kids.length td] 25)).alloc (.cells #[.int .i64 7, .string ⟨#[]⟩, .bool false, .slice none 0 0, .int .i64 (0), .int .i64 (-1), .bool false, .slice (some ⟨w.heap.size + 1 + 1, 0, none⟩) 1 1] 25)) u0 b zs l) := hide hm
    clear hm
    go_wp2_with fail
    refine (HT1.out _ (N0.out.pl HP0.out)).mono ?_
    rintro e u1 ⟨rfl, hm⟩
    have N1 : Hid (Rv ((((w.alloc (.cells #[.int .i64 t.k, .string t.ch, .bool t.nt, .slice tA t.rows.length tc, .int .i64 t.mi, .int .i64 t.ma, .bool t.lz, .slice tB t.kids.length td] 25)).alloc (.cells #[.int .i64 0, .string ⟨#[]⟩, .bool false, .slice none 0 0, .int .i64 0, .int .i64 0, .bool false, .slice none 0 0] 25)).alloc (.cells #[.int .i64 t.k, .string t.ch, .bool t.nt, .slice tA t.rows.length tc, .int .i64 t.mi, .int .i64 t.ma, .bool t.lz, .slice tB t.kids.length td] 25)).alloc (.cells #[.int .i64 7, .string ⟨#[]⟩, .bool false, .slice none 0 0, .int .i64 (0), .int .i64 (-1), .bool false, .slice (some ⟨w.heap.size + 1 + 1, 0, none⟩) 1 1] 25)) u1 b zs l) := hide (N0.out.trans hm)
    clear hm
    go_wp2_with fail
    refine (HT2.out _ (N1.out.pl HP0.out)).mono ?_
    rintro e u2 ⟨rfl, hm⟩
    have N2 : Hid (Rv ((((w.alloc (.cells #[.int .i64 t.k, .string t.ch, .bool t.nt, .slice tA t.rows.length tc, .int .i64 t.mi, .int .i64 t.ma, .bool t.lz, .slice tB t.kids.length td] 25)).alloc (.cells #[.int .i64 0, .string ⟨#[]⟩, .bool false, .slice none 0 0, .int .i64 0, .int .i64 0, .bool false, .slice none 0 0] 25)).alloc (.cells #[.int .i64 t.k, .string t.ch, .bool t.nt, .slice tA t.rows.length tc, .int .i64 t.mi, .int .i64 t.ma, .bool t.lz, .slice tB t.kids.length td] 25)).alloc (.cells #[.int .i64 7, .string ⟨#[]⟩, .bool false, .slice none 0 0, .int .i64 (0), .int .i64 (-1), .bool false, .slice (some ⟨w.heap.size + 1 + 1, 0, none⟩) 1 1] 25)) u2 b zs l) := hide (N1.out.trans hm)
    clear hm
    go_wp2_with fail
    refine (HTT.out _ (N2.out.pl HP0.out)).mono ?_
    rintro e w2 ⟨rfl, hm⟩
    have M2 : Hid (Rv ((((w.alloc (.cells #[.int .i64 t.k, .string t.ch, .bool t.nt, .slice tA t.rows.length tc, .int .i64 t.mi, .int .i64 t.ma, .bool t.lz, .slice tB t.kids.length td] 25)).alloc (.cells #[.int .i64 0, .string ⟨#[]⟩, .bool false, .slice none 0 0, .int .i64 0, .int .i64 0, .bool false, .slice none 0 0] 25)).alloc (.cells #[.int .i64 t.k, .string t.ch, .bool t.nt, .slice tA t.rows.length tc, .int .i64 t.mi, .int .i64 t.ma, .bool t.lz, .slice tB t.kids.length td] 25)).alloc (.cells #[.int .i64 7, .string ⟨#[]⟩, .bool false, .slice none 0 0, .int .i64 (0), .int .i64 (-1), .bool false, .slice (some ⟨w.heap.size + 1 + 1, 0, none⟩) 1 1] 25)) w2 b zs r0) := hide (N2.out.trans hm)
    clear hm
    go_wp2_with fail
    refine (HN1.out _ (M2.out.pl HP0.out)).mono ?_
    rintro e w3 ⟨rfl, hm⟩
    have M3 : Hid (Rv ((((w.alloc (.cells #[.int .i64 t.k, .string t.ch, .bool t.nt, .slice tA t.rows.length tc, .int .i64 t.mi, .int .i64 t.ma, .bool t.lz, .slice tB t.kids.length td] 25)).alloc (.cells #[.int .i64 0, .string ⟨#[]⟩, .bool false, .slice none 0 0, .int .i64 0, .int .i64 0, .bool false, .slice none 0 0] 25)).alloc (.cells #[.int .i64 t.k, .string t.ch, .bool t.nt, .slice tA t.rows.length tc, .int .i64 t.mi, .int .i64 t.ma, .bool t.lz, .slice tB t.kids.length td] 25)).alloc (.cells #[.int .i64 7, .string ⟨#[]⟩, .bool false, .slice none 0 0, .int .i64 (0), .int .i64 (-1), .bool false, .slice (some ⟨w.heap.size + 1 + 1, 0, none⟩) 1 1] 25)) w3 b zs r) := hide (M2.out.trans hm)
    clear hm
    have Y3 := hide (Y0.out.mv M3.out.1 HB3.out)
    have Z3 := hide (Z0.out.mv M3.out.1 HB1.out)
    have K3 := hide (K0.out.mv M3.out.1 HB2.out)
    have M3w := hide (HSELF.out.trans M3.out)
    have M4p : Hid (Rv w ((w3.setCell ⟨w.heap.size + 1 + 1 + 1, 4, none⟩ (.int .i64 (n : Int))).setCell ⟨w.heap.size + 1 + 1 + 1, 5, none⟩ (.int .i64 (n : Int))) b zs r) := hide ((M3w.out.put HB3.out L3.out 4 (.int .i64 (n : Int))).put HB3.out L3.out 5 (.int .i64 (n : Int)))
    have Y4p : Hid (Cl ((w3.setCell ⟨w.heap.size + 1 + 1 + 1, 4, none⟩ (.int .i64 (n : Int))).setCell ⟨w.heap.size + 1 + 1 + 1, 5, none⟩ (.int .i64 (n : Int))) (w.heap.size + 1 + 1 + 1) [.int .i64 7, .string ⟨#[]⟩, .bool false, .slice none 0 0, .int .i64 ((n : Int)), .int .i64 ((n : Int)), .bool false, .slice (some ⟨w.heap.size + 1 + 1, 0, none⟩) 1 1]) := hide ((Y3.out.put 4 (.int .i64 (n : Int))).put 5 (.int .i64 (n : Int)))
    have Z4p : Hid (Cl ((w3.setCell ⟨w.heap.size + 1 + 1 + 1, 4, none⟩ (.int .i64 (n : Int))).setCell ⟨w.heap.size + 1 + 1 + 1, 5, none⟩ (.int .i64 (n : Int))) (w.heap.size + 1) [.int .i64 0, .string ⟨#[]⟩, .bool false, .slice none 0 0, .int .i64 0, .int .i64 0, .bool false, .slice none 0 0]) := hide ((Z3.out.off B13.out 4 (.int .i64 (n : Int))).off B13.out 5 (.int .i64 (n : Int)))
    have K4p : Hid (Cl ((w3.setCell ⟨w.heap.size + 1 + 1 + 1, 4, none⟩ (.int .i64 (n : Int))).setCell ⟨w.heap.size + 1 + 1 + 1, 5, none⟩ (.int .i64 (n : Int))) (w.heap.size + 1 + 1) t.cs) := hide ((K3.out.off B23.out 4 (.int .i64 (n : Int))).off B23.out 5 (.int .i64 (n : Int)))
    obtain ⟨y0, y1, y2, y3, y4, y5, y6, y7⟩ := Y3.out.eight
    have hf3 := Y3.out.f
    go_wp2_with fail
    refine (HC2.out _ (M4p.out.pl HS.out)).mono ?_
    rintro e w4 ⟨rfl, hm4⟩
    have M4 := hide (M4p.out.trans hm4)
    have Y4 := hide (Y4p.out.mv hm4.1 HB3.out)
    have Z4 := hide (Z4p.out.mv hm4.1 HB1.out)
    have K4 := hide (K4p.out.mv hm4.1 HB2.out)
    clear hm4
    clear y0 y1 y2 y3 y4 y5 y6 y7 hf3
    go_wp2_with fail
    refine (HC3.out _ (M4.out.pl HS.out)).mono ?_
    rintro e w5 ⟨rfl, hm5⟩
    have M5 := hide (M4.out.trans hm5)
    have Y5 := hide (Y4.out.mv hm5.1 HB3.out)
    have Z5 := hide (Z4.out.mv hm5.1 HB1.out)
    have K5 := hide (K4.out.mv hm5.1 HB2.out)
    clear hm5
    obtain ⟨y0, y1, y2, y3, y4, y5, y6, y7⟩ := Y5.out.eight
    have hf3 := Y5.out.f
    go_wp2_with fail
    refine (HTQ.out _ (M5.out.pl HS.out)).mono ?_
    rintro e w9 ⟨rfl, hm9⟩
    have M9 := hide (M5.out.trans hm9)
    have Y9 := hide (Y5.out.mv hm9.1 HB3.out)
    have Z9 := hide (Z5.out.mv hm9.1 HB1.out)
    have K9 := hide (K5.out.mv hm9.1 HB2.out)
    clear hm9
    clear y0 y1 y2 y3 y4 y5 y6 y7 hf3
    obtain ⟨y0, y1, y2, y3, y4, y5, y6, y7⟩ := Y9.out.eight
    have hf3 := Y9.out.f
    obtain ⟨z0, z1, z2, z3, z4, z5, z6, z7⟩ := Z9.out.eight
    have hf1 := Z9.out.f
    have HM8 := hide (rv8 (M9.out.put (g := w.heap.size + 1 + 1 + 1) HB3.out L3.out 6 (.bool lz)) HB1.out L1.out 0 (.int .i64 7) 1 (.string ⟨#[]⟩) 2 (.bool false) 3 (.slice none 0 0) 4 (.int .i64 ((n : Int))) 5 (.int .i64 ((n : Int))) 6 (.bool lz) 7 (.slice (some ⟨w.heap.size + 1 + 1, 0, none⟩) 1 1))
    have HEND := hide (rrep_end (g := w.heap.size + 1 + 1) (mi := (n : Int)) (ma := (n : Int)) (lz := lz) HM8.out HBN.out HN.out HT.out HF.out (Nat.le_trans HN.out (by omega)) (fun j u hu => set8 (set_blk (K9.out.c j u hu) B23.out) B12.out))
    go_wp2
    refine bodyPost_ret (v := .tuple #[.agg #[.int .i64 7, .string ⟨#[]⟩, .bool false, .slice none 0 0, .int .i64 (n : Int), .int .i64 (n : Int), .bool lz, .slice (some ⟨w.heap.size + 1 + 1, 0, none⟩) 1 1], .int .i64 0]) ?_ rfl HEND.out
    rw [results_cell2 rfl]
    go_simp
end
end Go.Proofs.Ytmfaeonlmfejdaa
