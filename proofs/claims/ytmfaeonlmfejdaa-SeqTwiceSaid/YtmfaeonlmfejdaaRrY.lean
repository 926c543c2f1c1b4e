/- Plain facts of items; contract: a class (gimletref14's class). Condition: the place is among the characters, at most 256 bytes are to come. Contract: an atom (gimletref14's atom), from that of a pattern. Condition: the place is among proper characters, at most 256 bytes are to come, at no edge's sign. Contracts: gimletref13's kids, Seq, Alt, with where the trees' lists lie. Condition: trees that are not too big. Contract: a term (gimletref14's term), from that of a pattern. Condition: the place is among proper characters, at most 256 bytes are to come. Contract: a pattern (gimletref14's pattern), from that of a term. Condition: the place is among the characters, at most 256 bytes are to come. What an improper beginning does; contract: gimletref14.Read. No condition but a text that is not too long. -/
import Derived.Test.YtmfaeonlmfejdaaRrX
import Derived.Test.YtmfaeonlmfejdaaRxB
import Derived.Test.YtmfaeonlmfejdaaRyI
namespace Go.Proofs.Ytmfaeonlmfejdaa
section
open Go.ChangeShapes Go.WideShapes Go.ChangeAt Go.RowKit
open SetM
attribute [local go_sem ↓] Go.wp_at_zero Go.wp_at_succ
set_option maxRecDepth 100000
set_option linter.unusedVariables false
attribute [local go_sem] later_cell later_frozen lt_bl le_bl
theorem escP_pos {c z : ByteArray} (h : escP c = some z) : 0 < z.size := by
  unfold escP at h
  split at h
  · injection h with h; subst h; decide
  split at h
  · injection h with h; subst h; decide
  split at h
  · injection h with h; subst h; decide
  split at h
  · injection h with h; subst h; decide
  split at h
  · injection h with h; subst h; decide
  split at h
  · cases h
  split at h
  · cases h
  · rename_i h0 _
    injection h with h
    subst h
    rcases Nat.eq_zero_or_pos c.size with h1 | h1
    · exact absurd (beq_iff_eq.2 (List.eq_nil_of_length_eq_zero ((show c.data.toList.length = c.size from Array.length_toList).trans h1))) h0
    · exact h1
theorem itemP_form {l : List UInt8} {L : List Rw} {c : ByteArray} {r : List UInt8} (h : itemP l = some (L, c, r)) : (c.size = 0 ∧ 0 < L.length) ∨ (0 < c.size ∧ L = []) := by
  unfold itemP at h
  split at h
  · split at h
    · cases h; exact .inl ⟨rfl, by decide⟩
    split at h
    · cases h; exact .inl ⟨rfl, by decide⟩
    split at h
    · cases h; exact .inl ⟨rfl, by decide⟩
    · obtain ⟨z, hz⟩ : ∃ z, escP (bsC (hdC (tlC l))) = z := ⟨_, rfl⟩
      rw [hz] at h
      rcases z with _ | z
      · cases h
      · cases h; exact .inr ⟨escP_pos hz, rfl⟩
  · split at h
    · cases h
    · rename_i h0
      cases h
      refine .inr ⟨?_, rfl⟩
      rw [bsC_size]
      rcases Nat.eq_zero_or_pos (hdC l).length with h1 | h1
      · exact absurd (beq_iff_eq.2 (List.eq_nil_of_length_eq_zero h1)) h0
      · exact h1
theorem bl_nil {c : ByteArray} (h : 0 < c.size) : bl ⟨#[]⟩ c = true := by
  rw [bl_iff]
  cases hd : c.data.toList with
  | nil => rw [← show c.data.toList.length = c.size from Array.length_toList, hd] at h; exact absurd h (by decide)
  | cons a r => exact List.nil_lt_cons a r
theorem split_join : ∀ (n : Nat) (l : List UInt8), l.length < n → (splitL l).flatten = l
  | 0, l, h => absurd h (Nat.not_lt_zero _)
  | n + 1, l, h => by
    by_cases h0 : l = []
    · subst h0; rfl
    · rw [split_cons h0, List.flatten_cons, split_join n (tlC l) (by have := tl_len l h0; omega), hd_tl]
theorem spl_lt {zs : List (List UInt8)} {l r : List UInt8} (hl : splitL l <:+ zs) (hr : splitL r <:+ zs) (h : r.length < l.length) : (splitL r).length < (splitL l).length := by
  rcases Nat.lt_or_ge (splitL r).length (splitL l).length with h1 | h1
  · exact h1
  · obtain ⟨p, hp⟩ := List.suffix_of_suffix_length_le hl hr h1
    have := congrArg (fun x => x.flatten.length) hp
    simp only [List.flatten_append, List.length_append, split_join _ l (Nat.lt_succ_self _), split_join _ r (Nat.lt_succ_self _)] at this
    omega
theorem own_rv {w w' : World} {base size n b k : Nat} {e : TypeId} {v : Value} {xs : List Value} (h : w.ownsRow base e size v n xs) (hm : Mvd w w' b 0 k) (hb : b < base) : w'.ownsRow base e size v n xs := by
  refine h.kept hm.grown ?_
  rcases hv : v.ownBlock with _ | k
  · exact .inl rfl
  · refine .inr ?_
    have := (h.lt k hv).1
    intro e
    injection e with e
    omega
theorem own_put1 {w : World} {base size n g : Nat} {e : TypeId} {v : Value} {xs : List Value} (h : w.ownsRow base e size v n xs) (hg : ∀ k, v.ownBlock = some k → k < g) (o : Nat) (u : Value) : (w.setCell ⟨g, o, none⟩ u).ownsRow base e size v n xs := by
  refine h.kept (grown_set (grown_refl w (some g)) o u) ?_
  rcases hv : v.ownBlock with _ | k
  · exact .inl rfl
  · refine .inr ?_
    have := hg k hv
    intro e
    injection e with e
    omega
theorem Rv.appendv {w w1 w2 : World} {b base size n : Nat} {e : TypeId} {v : Value} {xs : List Value} {zs : List ByteArray} {l : List UInt8} (h : Rv w w1 b zs l) (ho : w1.ownsRow base e size v n xs) (hg : w1.grownBy w2 v.ownBlock) (hb : b < base) (hw : w.heap.size ≤ base) : Rv w w2 b zs l := by
  rcases hv : v.ownBlock with _ | g
  · rw [hv] at hg
    exact h.bl (bl_grown (bl_refl _) hg (fun k hk => by cases hk))
  · rw [hv] at hg
    have := (ho.lt g hv).1
    exact ⟨h.1.append hg (by omega) (by omega), h.2⟩
theorem posOf_rv {w w' : World} {b : Nat} {zs : List ByteArray} {l : List UInt8} (h : Rv w w' b zs l) : posOf w' b = zs.length - (splitL l).length := by
  unfold posOf
  have := h.1.pos
  simp only [Nat.zero_add] at this
  rw [this]
  simp [intOf]
/-- Whether a range begins, as the walk asks: the sign, whether a character is behind it, whether that closes the class. -/
inductive Rng (zs : List ByteArray) (r : List UInt8) : Bool → Prop
  | no (h : (hdC r == [45]) = false) : Rng zs r false
  | last (k : Nat) (h : (hdC r == [45]) = true) (hk : zs.length - (splitL r).length = k) (hn : zs.length = k + 1) : Rng zs r false
  | at (k : Nat) (q : Bool) (h : (hdC r == [45]) = true) (hk : zs.length - (splitL r).length = k) (hn : k + 1 < zs.length) (hD : ((zs[k + 1]'hn).data.toList == [93]) = q) (hq : (hdC (tlC r) == [93]) = q) (hr : r ≠ []) : Rng zs r (!q)
theorem rng_of {zs : List ByteArray} {r : List UInt8} (hs : splitL r <:+ zs.map (fun z => z.data.toList)) : Rng zs r (rngP r) := by
  unfold rngP
  rcases h1 : (hdC r == [45]) with _ | _
  · exact .no h1
  · have hr : r ≠ [] := by rintro rfl; exact absurd h1 (by decide)
    have hs0 := hs
    rw [split_cons hr] at hs0
    have hle := hs0.length_le
    rw [List.length_map, List.length_cons] at hle
    by_cases h2 : tlC r = []
    · rw [h2]
      rw [h2, split_nil, List.length_nil] at hle
      exact .last (zs.length - 1) h1 (by rw [split_cons hr, h2, split_nil]; rfl) (by omega)
    · have hs := tl_split hs
      rw [split_cons h2] at hs hle
      rw [List.length_cons] at hle
      have hk1 : zs.length - (splitL r).length + 1 < zs.length := by rw [split_cons hr, split_cons h2, List.length_cons, List.length_cons]; omega
      obtain ⟨pre, hp⟩ := hs
      have e7 : (zs.map (fun z => z.data.toList))[zs.length - (splitL r).length + 1]? = some (hdC (tlC r)) := by
        have hpl : pre.length + ((splitL (tlC (tlC r))).length + 1) = zs.length := by
          have := congrArg List.length hp
          rw [List.length_append, List.length_cons, List.length_map] at this; exact this
        rw [split_cons hr, split_cons h2, List.length_cons, List.length_cons, ← hp, List.getElem?_append_right (by omega), show zs.length - ((splitL (tlC (tlC r))).length + 1 + 1) + 1 - pre.length = 0 by omega]; rfl
      rw [List.getElem?_map, List.getElem?_eq_getElem hk1] at e7
      have e8 : (zs[zs.length - (splitL r).length + 1]'hk1).data.toList = hdC (tlC r) := by simpa using e7
      have h3 : (tlC r).isEmpty = false := by cases h : tlC r with | nil => exact absurd h h2 | cons a l => rfl
      rw [h3]
      exact .at _ _ h1 rfl hk1 (by rw [e8]) rfl hr
theorem item_suf {zs : List (List UInt8)} {l : List UInt8} {L : List Rw} {c : ByteArray} {r : List UInt8} (h : itemP l = some (L, c, r)) (hs : splitL l <:+ zs) : splitL r <:+ zs := by
  unfold itemP at h
  split at h
  · split at h
    · cases h; exact tl_split (tl_split hs)
    split at h
    · cases h; exact tl_split (tl_split hs)
    split at h
    · cases h; exact tl_split (tl_split hs)
    · obtain ⟨z, hz⟩ : ∃ z, escP (bsC (hdC (tlC l))) = z := ⟨_, rfl⟩
      rw [hz] at h
      rcases z with _ | z
      · cases h
      · cases h; exact tl_split (tl_split hs)
  · split at h
    · cases h
    · cases h; exact tl_split hs
theorem alloc_row (w : World) (c d : ByteArray) : (w.alloc (.cells #[.string c, .string d] 43)).cell? ⟨w.heap.size, 0, none⟩ = some (.string c) ∧ (w.alloc (.cells #[.string c, .string d] 43)).cell? ⟨w.heap.size, 1, none⟩ = some (.string d) :=
  ⟨ks_alloc (cs := [.string c, .string d]) rfl 0 _ rfl, ks_alloc (cs := [.string c, .string d]) rfl 1 _ rfl⟩
set_option maxHeartbeats 16000000 in
theorem rclass_any {w : World} {b : Nat} {A : Option Addr} {c : Nat} {zs : List ByteArray} {l : List UInt8} (h : Rp w b A c zs l) (hl : l.length ≤ 256) (res : Res) (ho : classP l = res) :
    Calls Try.prog 66 #[.pointer (some ⟨b, 0, none⟩)] w (RrPost w b zs res) := by
  obtain ⟨i0, hi0, hz0', hz1, hz2⟩ := info_parts info_rw
  have hbw : b < w.heap.size := h.lt
  have HS := hide h
  have HNB := hide (show w.heap.size ≠ b by omega)
  have HBW := hide hbw
  have HSZZ := hide h.sz
  unfold classP at ho
  obtain ⟨nt, hnt⟩ : ∃ q, (hdC l == [94]) = q := ⟨_, rfl⟩
  have HT0 := hide (fun o => rr_take (h.bl (bl_alloc (bl_refl w) o)) ⟨#[94]⟩ (by decide) nt hnt)
  rw [hnt] at ho
  have hl0 : (if nt = true then tlC l else l).length ≤ l.length := by split; exact tl_le l; exact Nat.le_refl _
  obtain ⟨l0, hl0'⟩ : ∃ l0, (if nt = true then tlC l else l) = l0 := ⟨_, rfl⟩
  rw [hl0'] at ho hl0 HT0
  obtain ⟨o, hoo⟩ : ∃ o, clsP (l0.length + 1) [] l0 = o := ⟨_, rfl⟩
  rw [hoo] at ho
  have HR1 := hide (show ∀ rows r, o = some (rows, r) → ∀ e w', RrPost w b zs (.ok (setX nt (uniF (sortS (okU rows)))) r) e w' → RrPost w b zs res e w' from fun rows r h e w' ht => by rw [h] at ho; rw [← ho]; exact ht)
  have HR0 := hide (show o = none → ∀ e w', RrPost w b zs (.err 10) e w' → RrPost w b zs res e w' from fun h e w' ht => by rw [h] at ho; rw [← ho]; exact ht)
  have HO0 := hide hoo
  have HL0 := hide (show ([] : List Rw).length + 2 * l0.length ≤ 512 by simp only [List.length_nil]; omega)
  clear h hnt hl0' hoo ho hl hl0
  go_enter Try.func66, Try.ntmps66
  go_wp2_with fail
  refine (HT0.out _).mono ?_
  rintro e w1 ⟨rfl, hm1⟩
  have M0 := hide ((HS.out.self (bl_alloc (bl_refl w) (.cells #[.int .i64 0, .string ⟨#[]⟩, .bool false, .slice none 0 0, .int .i64 0, .int .i64 0, .bool false, .slice none 0 0] 25))).trans hm1)
  have M1 := hide (show Rv w (w1.alloc (.cells #[.int .i64 4, .string ⟨#[]⟩, .bool nt, .slice none 0 0, .int .i64 0, .int .i64 0, .bool false, .slice none 0 0] 25)) b zs l0 from M0.out.bl (bl_alloc (bl_refl w1) _))
  have HM1 := hide (show Rv (w1.alloc (.cells #[.int .i64 4, .string ⟨#[]⟩, .bool nt, .slice none 0 0, .int .i64 0, .int .i64 0, .bool false, .slice none 0 0] 25)) (w1.alloc (.cells #[.int .i64 4, .string ⟨#[]⟩, .bool nt, .slice none 0 0, .int .i64 0, .int .i64 0, .bool false, .slice none 0 0] 25)) b zs l0 from (M1.out.pl HS.out).self (bl_refl _))
  have HP1 := hide (show Rp (w1.alloc (.cells #[.int .i64 4, .string ⟨#[]⟩, .bool nt, .slice none 0 0, .int .i64 0, .int .i64 0, .bool false, .slice none 0 0] 25)) b A c zs l0 from M1.out.pl HS.out)
  have XC := hide (show Cl (w1.alloc (.cells #[.int .i64 4, .string ⟨#[]⟩, .bool nt, .slice none 0 0, .int .i64 0, .int .i64 0, .bool false, .slice none 0 0] 25)) w1.heap.size [.int .i64 4, .string ⟨#[]⟩, .bool nt, .slice none 0 0, .int .i64 0, .int .i64 0, .bool false, .slice none 0 0] from cl_alloc w1 [.int .i64 4, .string ⟨#[]⟩, .bool nt, .slice none 0 0, .int .i64 0, .int .i64 0, .bool false, .slice none 0 0] _)
  have ZC := hide (show Cl (w1.alloc (.cells #[.int .i64 4, .string ⟨#[]⟩, .bool nt, .slice none 0 0, .int .i64 0, .int .i64 0, .bool false, .slice none 0 0] 25)) w.heap.size [.int .i64 0, .string ⟨#[]⟩, .bool false, .slice none 0 0, .int .i64 0, .int .i64 0, .bool false, .slice none 0 0] from ((cl_alloc w [.int .i64 0, .string ⟨#[]⟩, .bool false, .slice none 0 0, .int .i64 0, .int .i64 0, .bool false, .slice none 0 0] _).mv hm1.1 HNB.out).bl (bl_alloc (bl_refl w1) _))
  have hsz1 : w.heap.size < w1.heap.size := by have := hm1.1.grown.size; simp at this; omega
  have HSZ1 := hide hsz1
  have HXB := hide (show w1.heap.size ≠ b by have := HBW.out; omega)
  have HBB := hide (show b < w1.heap.size + 1 by have := HBW.out; omega)
  have HXZ := hide (show w1.heap.size ≠ w.heap.size by omega)
  clear hm1 hbw M0 hsz1
  go_wp2
  go_loopw [5] (fun v wr => ∃ (acc : List Rw) (l1 : List UInt8) (f : Nat) (A1 : Option Addr) (c1 : Nat), v = .slice A1 acc.length c1 ∧ Hid (wr.ownsRow (w1.heap.size + 1) 43 2 (.slice A1 acc.length c1) acc.length (flatR acc)) ∧ Hid (Rv (w1.alloc (.cells #[.int .i64 4, .string ⟨#[]⟩, .bool nt, .slice none 0 0, .int .i64 0, .int .i64 0, .bool false, .slice none 0 0] 25)) wr b zs l1) ∧ Hid (clsP f acc l1 = o) ∧ l1.length < f ∧ acc.length + 2 * l1.length ≤ 512 ∧ Hid (∀ x ∈ acc, Short x)) (fun _ wr => zs.length - posOf wr b)
  case atStart => exact ⟨[], l0, l0.length + 1, none, 0, rfl, hide ⟨rfl, .inl ⟨rfl, rfl⟩⟩, HM1, HO0, Nat.lt_succ_self _, HL0.out, hide (fun x hx => by cases hx)⟩
  case round =>
    obtain ⟨acc, l1, f, A1, c1, rfl, HROW, HM, HO, hf, hal, HSH⟩ := hrel
    obtain ⟨f, rfl⟩ : ∃ g, f = g + 1 := ⟨f - 1, by omega⟩
    have HPL := hide (HM.out.pl HP1.out)
    have HWS := hide (show w1.heap.size + 1 ≤ wr.heap.size by have := HM.out.1.grown.size; simpa using this)
    obtain ⟨q, hq⟩ : ∃ q, (hdC l1 == [93]) = q := ⟨_, rfl⟩
    have HT := hide (rr_take HPL.out ⟨#[93]⟩ (by decide) q hq)
    have ho2 := HO.out
    rw [clsP, hq] at ho2
    clear HM1 HO0 HL0
    cases q
    · rw [if_neg (by decide)] at ho2
      have h93 : hdC l1 ≠ [93] := fun e => by rw [e] at hq; exact absurd hq (by decide)
      obtain ⟨o1, ho1⟩ : ∃ o1, itemP l1 = o1 := ⟨_, rfl⟩
      have hit := fun W (hp : Rp W b A c zs l1) => ritem_any hp h93 o1 ho1
      unfold RitPost at hit
      clear hq h93
      rcases o1 with _ | ⟨L, c0, r⟩
      · have HE0 := hide (HR0.out (by rw [← ho2]; unfold rowsP; rw [ho1]))
        simp only [Option.isSome] at hit
        have HIT := hide hit
        clear ho2 ho1 hit
        go_wp2_with fail
        refine HT.out.mono ?_
        rintro e w2 ⟨rfl, hm2⟩
        have M2 : Hid (Rv (w1.alloc (.cells #[.int .i64 4, .string ⟨#[]⟩, .bool nt, .slice none 0 0, .int .i64 0, .int .i64 0, .bool false, .slice none 0 0] 25)) w2 b zs l1) := hide (HM.out.trans hm2)
        have HROW2 := hide (own_rv HROW.out hm2.1 HBB.out)
        clear hm2
        go_wp2_with fail
        refine (HIT.out _ (M2.out.pl HP1.out)).mono ?_
        rintro e w3 ⟨v, c0, rfl, ⟨k3, hmv⟩, hfv, hx⟩
        have hmt := M2.out.1.trans hmv
        have HMT := hide hmt
        clear hmv hfv hx hmt
        have HE := hide (HE0.out _ _ ⟨rfl, _, mvd8 (M1.out.1.trans HMT.out) HNB.out (Nat.le_refl _) 0 (.int .i64 0) 1 (.string ⟨#[]⟩) 2 (.bool false) 3 (.slice none 0 0) 4 (.int .i64 0) 5 (.int .i64 0) 6 (.bool false) 7 (.slice none 0 0)⟩)
        obtain ⟨z0, z1, z2, z3, z4, z5, z6, z7⟩ := (ZC.out.mv HMT.out HNB.out).eight
        have hf1 := (ZC.out.mv HMT.out HNB.out).f
        go_wp2
        refine bodyPost_ret (v := .tuple #[.agg #[.int .i64 0, .string ⟨#[]⟩, .bool false, .slice none 0 0, .int .i64 0, .int .i64 0, .bool false, .slice none 0 0], .int .i64 10]) ?_ rfl HE.out
        rw [results_cell2 rfl]
        go_simp
      simp only [Option.isSome] at hit
      by_cases hc0 : c0.size = 0
      · have hrp : rowsP l1 = some (L, r) := by unfold rowsP; rw [ho1]; show (if c0.size = 0 then _ else _) = _; rw [if_pos hc0]
        have hL0 : 0 < L.length := by
          rcases itemP_form ho1 with h | h
          · exact h.2
          · omega
        rw [hrp] at ho2
        simp only at ho2
        obtain ⟨rk1, rk2, rk3⟩ := rowsP_ok hrp
        have HO3 := hide ho2
        have HSHL := hide (show ∀ x ∈ acc ++ L, Short x from fun x hx => by
          rcases List.mem_append.1 hx with hx | hx
          · exact HSH.out x hx
          · have := rk3 x hx
            exact ⟨by omega, by omega⟩)
        have hal2 : (acc ++ L).length + 2 * r.length ≤ 512 := by rw [List.length_append]; omega
        have hAL : acc.length ≤ 512 := by omega
        have HAL2 := hide hal2
        have HFL := hide (show r.length < f by omega)
        have HRL := hide rk1
        clear ho2 rk1 rk2 rk3 hal2 hal
        have d1 : decide ((0 : Int) < (L.length : Int)) = true := decide_eq_true (by omega)
        have d2 : decide (0 < L.length) = true := decide_eq_true hL0
        have hLL : L.length ≤ 512 := by have := HAL2.out; rw [List.length_append] at this; omega
        have HIT := hide hit
        clear hrp ho1 hc0 hL0 hit hf
        go_wp2_with fail
        refine HT.out.mono ?_
        rintro e w2 ⟨rfl, hm2⟩
        have M2 : Hid (Rv (w1.alloc (.cells #[.int .i64 4, .string ⟨#[]⟩, .bool nt, .slice none 0 0, .int .i64 0, .int .i64 0, .bool false, .slice none 0 0] 25)) w2 b zs l1) := hide (HM.out.trans hm2)
        have HROW2 := hide (own_rv HROW.out hm2.1 HBB.out)
        clear hm2
        go_wp2_with fail
        refine (HIT.out _ (M2.out.pl HP1.out)).mono ?_
        rintro e w3 ⟨v, c0, rfl, ⟨k3, hmv⟩, hfv, hx⟩
        obtain ⟨hrv, hrw, rfl⟩ := hx _ rfl
        simp only at hrw hrv
        clear hx
        have M3 := hide (M2.out.trans hrv)
        have HROW3 := hide (own_rv HROW2.out hmv HBB.out)
        obtain ⟨vA, vc, rfl⟩ := rwat_len hrw
        have HSRC := hide (rwat_src hrw)
        have hb3 : w1.heap.size + 1 ≤ w3.heap.size := by have := M3.out.1.grown.size; simpa using this
        have HB3 := hide hb3
        have HRK := hide (show (splitL r).length < (splitL l1).length ∧ (splitL l1).length ≤ zs.length from ⟨spl_lt HM.out.2 M3.out.2 HRL.out, HPL.out.le⟩)
        clear hmv hfv hrw hb3 hrv
        go_wp2_with (at_builtin; go_must (refine wpList_src _ rfl _ _ 22 rfl (w1.heap.size + 1) 43 i0 (.agg #[.string ⟨#[]⟩, .string ⟨#[]⟩]) 2 32 Try.underlying22 hi0 hz0' hz1 hz2 rfl (by decide) (.slice A1 acc.length c1) acc.length (flatR acc) rfl HROW3.out vA L.length vc (flatR L) rfl HSRC.out (one_cellR L) (by omega) (by decide) HB3.out ?_); rintro v' w19 hv9 hg9)
        have hm9 := (M3.out).appendv HROW3.out hg9 HBB.out (by simp)
        have HM9 := hide hm9
        obtain ⟨A', c', rfl⟩ := own_slice hv9
        have HROW9 := hide (show w19.ownsRow (w1.heap.size + 1) 43 2 (.slice A' (acc ++ L).length c') (acc ++ L).length (flatR (acc ++ L)) by
          rw [List.length_append, show flatR (acc ++ L) = flatR acc ++ flatR L from List.flatMap_append]; exact hv9)
        have HLEN := hide (show Value.slice A' (acc.length + L.length) c' = .slice A' (acc ++ L).length c' by rw [List.length_append] <;> rfl)
        have HMS := hide (show zs.length - posOf w19 b < zs.length - posOf wr b by rw [posOf_rv hm9, posOf_rv HM.out]; have := HRK.out; omega)
        clear hv9 hg9 hm9
        go_wp2
        refine ⟨?_, HMS.out⟩
        first
          | exact ⟨acc ++ L, r, f, A', c', HLEN.out, HROW9, HM9, HO3, HFL.out, HAL2.out, HSHL⟩
          | ((repeat apply Exists.intro); exact ⟨⟨acc ++ L, r, f, A', c', HLEN.out, HROW9, HM9, HO3, HFL.out, HAL2.out, HSHL⟩, rfl⟩)
      have hL0 : L = [] := by
        rcases itemP_form ho1 with h | h
        · exact absurd h.1 hc0
        · exact h.2
      subst hL0
      have hcp : 0 < c0.size := by omega
      obtain ⟨C, hC⟩ : ∃ C, bsC (hdC r) = C := ⟨_, rfl⟩
      have hCd : C.data.toList = hdC r := by rw [← hC, bsC_data]
      have HSE0 := hide (fun W (hp : Rp W b A c zs r) => rr_see hp C hC)
      have HIT := hide hit
      obtain ⟨rg, hrg⟩ : ∃ q, rngP r = q := ⟨_, rfl⟩
      have HRG1 := hide hrg
      have HO1 := hide ho1
      have hsuf := item_suf ho1 HPL.out.suf
      have hCASE := rng_of hsuf
      rw [hrg] at hCASE
      clear hC hit hrg ho1
      rcases hCASE with h45 | ⟨k, h45, hk, hn⟩ | ⟨k, q, h45, hk, hn, hD, hq, hr⟩
      · have hrp : rowsP l1 = some ([(c0, c0)], r) := by unfold rowsP; rw [HO1.out]; show (if c0.size = 0 then _ else _) = _; rw [if_neg hc0, HRG1.out]; rfl
        rw [hrp] at ho2
        simp only at ho2
        obtain ⟨rk1, rk2, rk3⟩ := rowsP_ok hrp
        have HO3 := hide ho2
        have HSHL := hide (show ∀ x ∈ acc ++ [(c0, c0)], Short x from fun x hx => by
          rcases List.mem_append.1 hx with hx | hx
          · exact HSH.out x hx
          · have := rk3 x hx
            exact ⟨by omega, by omega⟩)
        have hal2 : (acc ++ [(c0, c0)]).length + 2 * r.length ≤ 512 := by rw [List.length_append]; omega
        have hAL : acc.length ≤ 512 := by omega
        have HAL2 := hide hal2
        have HFL := hide (show r.length < f by omega)
        have HRL := hide rk1
        clear ho2 rk1 rk2 rk3 hal2 hal
        clear hrp hc0 hcp hf
        obtain ⟨yC, zC⟩ := lit_eq C #[45] false (by rw [hCd]; exact h45)
        clear hCd h45
        go_wp2_with fail
        refine HT.out.mono ?_
        rintro e w2 ⟨rfl, hm2⟩
        have M2 : Hid (Rv (w1.alloc (.cells #[.int .i64 4, .string ⟨#[]⟩, .bool nt, .slice none 0 0, .int .i64 0, .int .i64 0, .bool false, .slice none 0 0] 25)) w2 b zs l1) := hide (HM.out.trans hm2)
        have HROW2 := hide (own_rv HROW.out hm2.1 HBB.out)
        clear hm2
        go_wp2_with fail
        refine (HIT.out _ (M2.out.pl HP1.out)).mono ?_
        rintro e w3 ⟨v, c0, rfl, ⟨k3, hmv⟩, hfv, hx⟩
        obtain ⟨hrv, hrw, rfl⟩ := hx _ rfl
        simp only at hrv hrw
        obtain ⟨vA, vc, rfl⟩ := rwat_len hrw
        clear hx hrw
        have M3 := hide (M2.out.trans hrv)
        have HROW3 := hide (own_rv HROW2.out hmv HBB.out)
        have HP3 := hide (show Rp (w3.alloc (.cells #[.string c0, .string c0] 43)) b A c zs r from (M3.out.pl HP1.out).bl (bl_alloc (bl_refl _) _))
        have HM3 := hide (show Rv (w1.alloc (.cells #[.int .i64 4, .string ⟨#[]⟩, .bool nt, .slice none 0 0, .int .i64 0, .int .i64 0, .bool false, .slice none 0 0] 25)) (w3.alloc (.cells #[.string c0, .string c0] 43)) b zs r from M3.out.bl (bl_alloc (bl_refl _) _))
        have hb3 : w1.heap.size + 1 ≤ w3.heap.size := by have := M3.out.1.grown.size; simpa using this
        have HB3 := hide hb3
        have HG3 := hide (show ∀ k, (Value.slice A1 acc.length c1).ownBlock = some k → k < w3.heap.size from fun k hk => (HROW3.out.lt k hk).2)
        have HRB := hide (show w3.heap.size ≠ b by have := HBB.out; omega)
        clear hmv hfv hrv hb3
        have HSE := hide (fun (u : Later (w3.alloc (.cells #[.string c0, .string c0] 43))) => HSE0.out u.now (HP3.out.bl u.below))
        go_wp2_with fail
        refine wp_region_later (by kernel_rfl) (by kernel_rfl) ?_
        repeat (go_big_quiet_step (first | (go_at_call 56; exact later_call (HSE.out _)) | exact rfl))
        refine wpQuiet_nil ?_
        rintro w9 ⟨⟨_, hb9⟩, rfl⟩
        have rc0 := cell_later hb9 (alloc_row w3 c0 c0).1
        have rc1 := cell_later hb9 (alloc_row w3 c0 c0).2
        have HM9a := hide (HM3.out.bl hb9)
        have HROW9a := hide (own_below (own_below HROW3.out (bl_alloc (bl_refl _) (.cells #[.string c0, .string c0] 43))) hb9)
        have hb9s : w1.heap.size + 1 ≤ w9.heap.size := Nat.le_trans HB3.out (Nat.le_trans (by simp) hb9.size)
        have HB9s := hide hb9s
        have HRK := hide (show (splitL r).length < (splitL l1).length ∧ (splitL l1).length ≤ zs.length from ⟨spl_lt HM.out.2 M3.out.2 HRL.out, HPL.out.le⟩)
        clear hb9 hb9s
        go_wp2_with (at_builtin; go_must (refine wpList_src _ rfl _ _ 22 rfl (w1.heap.size + 1) 43 i0 (.agg #[.string ⟨#[]⟩, .string ⟨#[]⟩]) 2 32 Try.underlying22 hi0 hz0' hz1 hz2 rfl (by decide) (.slice A1 acc.length c1) acc.length (flatR acc) rfl (own_below HROW9a.out (bl_alloc (bl_refl w9) _)) (some ⟨_, 0, none⟩) 1 1 [.string c0, .string c0] rfl (src_block (cs := #[.string c0, .string c0]) (heap_new (by simp)) rfl) (one_cellR [(c0, c0)]) (by omega) (by decide) (Nat.le_trans HB9s.out (by simp)) ?_); rintro v' w19 hv9 hg9)
        have hm9 := (HM9a.out.bl (bl_alloc (bl_refl w9) _)).appendv (own_below HROW9a.out (bl_alloc (bl_refl w9) _)) hg9 HBB.out (by simp)
        have HM9 := hide hm9
        obtain ⟨A', c', rfl⟩ := own_slice hv9
        have HROW9 := hide (show w19.ownsRow (w1.heap.size + 1) 43 2 (.slice A' (acc ++ [(c0, c0)]).length c') (acc ++ [(c0, c0)]).length (flatR (acc ++ [(c0, c0)])) by
          rw [List.length_append, show flatR (acc ++ [(c0, c0)]) = flatR acc ++ flatR [(c0, c0)] from List.flatMap_append]; exact hv9)
        have HLEN := hide (show Value.slice A' (acc.length + 1) c' = .slice A' (acc ++ [(c0, c0)]).length c' by rw [List.length_append] <;> rfl)
        have HMS := hide (show zs.length - posOf w19 b < zs.length - posOf wr b by rw [posOf_rv hm9, posOf_rv HM.out]; have := HRK.out; omega)
        clear hv9 hg9 hm9
        go_wp2
        refine ⟨?_, HMS.out⟩
        first
          | exact ⟨acc ++ [(c0, c0)], r, f, A', c', HLEN.out, HROW9, HM9, HO3, HFL.out, HAL2.out, HSHL⟩
          | ((repeat apply Exists.intro); exact ⟨⟨acc ++ [(c0, c0)], r, f, A', c', HLEN.out, HROW9, HM9, HO3, HFL.out, HAL2.out, HSHL⟩, rfl⟩)
      · have hrp : rowsP l1 = some ([(c0, c0)], r) := by unfold rowsP; rw [HO1.out]; show (if c0.size = 0 then _ else _) = _; rw [if_neg hc0, HRG1.out]; rfl
        rw [hrp] at ho2
        simp only at ho2
        obtain ⟨rk1, rk2, rk3⟩ := rowsP_ok hrp
        have HO3 := hide ho2
        have HSHL := hide (show ∀ x ∈ acc ++ [(c0, c0)], Short x from fun x hx => by
          rcases List.mem_append.1 hx with hx | hx
          · exact HSH.out x hx
          · have := rk3 x hx
            exact ⟨by omega, by omega⟩)
        have hal2 : (acc ++ [(c0, c0)]).length + 2 * r.length ≤ 512 := by rw [List.length_append]; omega
        have hAL : acc.length ≤ 512 := by omega
        have HAL2 := hide hal2
        have HFL := hide (show r.length < f by omega)
        have HRL := hide rk1
        clear ho2 rk1 rk2 rk3 hal2 hal
        clear hrp hc0 hcp hf
        obtain ⟨yC, zC⟩ := lit_eq C #[45] true (by rw [hCd]; exact h45)
        clear hCd h45
        obtain ⟨N, hN⟩ : ∃ N, zs.length = N := ⟨_, rfl⟩
        have hNk : N ≤ 1000 := by rw [← hN]; exact HSZZ.out
        rw [hN] at hn
        have hk9 : k ≤ 1000 := by omega
        have ew : IntKind.i64.wrap ((k : Int) + 1) = (k : Int) + 1 := by rw [IntKind.wrap_i64]; omega
        have dd : decide ((k : Int) + 1 < (N : Int)) = false := decide_eq_false (by omega)
        clear hn hNk
        go_wp2_with fail
        refine HT.out.mono ?_
        rintro e w2 ⟨rfl, hm2⟩
        have M2 : Hid (Rv (w1.alloc (.cells #[.int .i64 4, .string ⟨#[]⟩, .bool nt, .slice none 0 0, .int .i64 0, .int .i64 0, .bool false, .slice none 0 0] 25)) w2 b zs l1) := hide (HM.out.trans hm2)
        have HROW2 := hide (own_rv HROW.out hm2.1 HBB.out)
        clear hm2
        go_wp2_with fail
        refine (HIT.out _ (M2.out.pl HP1.out)).mono ?_
        rintro e w3 ⟨v, c0, rfl, ⟨k3, hmv⟩, hfv, hx⟩
        obtain ⟨hrv, hrw, rfl⟩ := hx _ rfl
        simp only at hrv hrw
        obtain ⟨vA, vc, rfl⟩ := rwat_len hrw
        clear hx hrw
        have M3 := hide (M2.out.trans hrv)
        have HROW3 := hide (own_rv HROW2.out hmv HBB.out)
        have HP3 := hide (show Rp (w3.alloc (.cells #[.string c0, .string c0] 43)) b A c zs r from (M3.out.pl HP1.out).bl (bl_alloc (bl_refl _) _))
        have HM3 := hide (show Rv (w1.alloc (.cells #[.int .i64 4, .string ⟨#[]⟩, .bool nt, .slice none 0 0, .int .i64 0, .int .i64 0, .bool false, .slice none 0 0] 25)) (w3.alloc (.cells #[.string c0, .string c0] 43)) b zs r from M3.out.bl (bl_alloc (bl_refl _) _))
        have hb3 : w1.heap.size + 1 ≤ w3.heap.size := by have := M3.out.1.grown.size; simpa using this
        have HB3 := hide hb3
        have HG3 := hide (show ∀ k, (Value.slice A1 acc.length c1).ownBlock = some k → k < w3.heap.size from fun k hk => (HROW3.out.lt k hk).2)
        have HRB := hide (show w3.heap.size ≠ b by have := HBB.out; omega)
        clear hmv hfv hrv hb3
        have HSE := hide (fun (u : Later (w3.alloc (.cells #[.string c0, .string c0] 43))) => HSE0.out u.now (HP3.out.bl u.below))
        have hpw := M3.out.pl HP1.out
        have p1 := hpw.row
        have p2 := hpw.pos
        rw [hk] at p2
        have hbw3 := hpw.lt
        have hbw4 : b < w3.heap.size + 1 := by omega
        have hbw5 : b ≠ w3.heap.size := by omega
        clear hpw
        rw [hN] at p1
        clear hk hN hk9
        go_wp2_with fail
        refine wp_region_later (by kernel_rfl) (by kernel_rfl) ?_
        repeat (go_big_quiet_step (first | (go_at_call 56; exact later_call (HSE.out _)) | exact rfl))
        refine wpQuiet_nil ?_
        rintro w9 ⟨⟨_, hb9⟩, rfl⟩
        clear p1 p2 ew dd hbw3 hbw4 hbw5
        have rc0 := cell_later hb9 (alloc_row w3 c0 c0).1
        have rc1 := cell_later hb9 (alloc_row w3 c0 c0).2
        have HM9a := hide (HM3.out.bl hb9)
        have HROW9a := hide (own_below (own_below HROW3.out (bl_alloc (bl_refl _) (.cells #[.string c0, .string c0] 43))) hb9)
        have hb9s : w1.heap.size + 1 ≤ w9.heap.size := Nat.le_trans HB3.out (Nat.le_trans (by simp) hb9.size)
        have HB9s := hide hb9s
        have HRK := hide (show (splitL r).length < (splitL l1).length ∧ (splitL l1).length ≤ zs.length from ⟨spl_lt HM.out.2 M3.out.2 HRL.out, HPL.out.le⟩)
        clear hb9 hb9s
        go_wp2_with (at_builtin; go_must (refine wpList_src _ rfl _ _ 22 rfl (w1.heap.size + 1) 43 i0 (.agg #[.string ⟨#[]⟩, .string ⟨#[]⟩]) 2 32 Try.underlying22 hi0 hz0' hz1 hz2 rfl (by decide) (.slice A1 acc.length c1) acc.length (flatR acc) rfl (own_below HROW9a.out (bl_alloc (bl_refl w9) _)) (some ⟨_, 0, none⟩) 1 1 [.string c0, .string c0] rfl (src_block (cs := #[.string c0, .string c0]) (heap_new (by simp)) rfl) (one_cellR [(c0, c0)]) (by omega) (by decide) (Nat.le_trans HB9s.out (by simp)) ?_); rintro v' w19 hv9 hg9)
        have hm9 := (HM9a.out.bl (bl_alloc (bl_refl w9) _)).appendv (own_below HROW9a.out (bl_alloc (bl_refl w9) _)) hg9 HBB.out (by simp)
        have HM9 := hide hm9
        obtain ⟨A', c', rfl⟩ := own_slice hv9
        have HROW9 := hide (show w19.ownsRow (w1.heap.size + 1) 43 2 (.slice A' (acc ++ [(c0, c0)]).length c') (acc ++ [(c0, c0)]).length (flatR (acc ++ [(c0, c0)])) by
          rw [List.length_append, show flatR (acc ++ [(c0, c0)]) = flatR acc ++ flatR [(c0, c0)] from List.flatMap_append]; exact hv9)
        have HLEN := hide (show Value.slice A' (acc.length + 1) c' = .slice A' (acc ++ [(c0, c0)]).length c' by rw [List.length_append] <;> rfl)
        have HMS := hide (show zs.length - posOf w19 b < zs.length - posOf wr b by rw [posOf_rv hm9, posOf_rv HM.out]; have := HRK.out; omega)
        clear hv9 hg9 hm9
        go_wp2
        refine ⟨?_, HMS.out⟩
        first
          | exact ⟨acc ++ [(c0, c0)], r, f, A', c', HLEN.out, HROW9, HM9, HO3, HFL.out, HAL2.out, HSHL⟩
          | ((repeat apply Exists.intro); exact ⟨⟨acc ++ [(c0, c0)], r, f, A', c', HLEN.out, HROW9, HM9, HO3, HFL.out, HAL2.out, HSHL⟩, rfl⟩)
      obtain ⟨D, hDe⟩ : ∃ D, zs[k + 1]'hn = D := ⟨_, rfl⟩
      rw [hDe] at hD
      have HCC := hide (show ∀ W, Rp W b A c zs r → ∃ g, A = some ⟨g, 0, none⟩ ∧ g ≠ b ∧ W.cell? ⟨g, k + 1, none⟩ = some (.string D) from fun W hp => by
        obtain ⟨g, g1, g2, g3⟩ := hp.cs (k + 1) hn
        rw [hDe] at g3
        exact ⟨g, g1, g2, g3⟩)
      clear hDe
      cases q
      · obtain ⟨yC, zC⟩ := lit_eq C #[45] true (by rw [hCd]; exact h45)
        clear hCd h45
        obtain ⟨N, hN⟩ : ∃ N, zs.length = N := ⟨_, rfl⟩
        have hNk : N ≤ 1000 := by rw [← hN]; exact HSZZ.out
        rw [hN] at hn
        have ew : IntKind.i64.wrap ((k : Int) + 1) = (k : Int) + 1 := by rw [IntKind.wrap_i64]; omega
        have dd : decide ((k : Int) + 1 < (N : Int)) = true := decide_eq_true (by omega)
        have q1 : (0 : Int) ≤ (k : Int) + 1 := by omega
        have q2 : (k : Int) + 1 < (N : Int) := by omega
        obtain ⟨yD, zD⟩ := lit_eq D #[93] false hD
        have h93r : hdC (tlC r) ≠ [93] := fun e => by rw [e] at hq; exact absurd hq (by decide)
        have hr0 := hr
        obtain ⟨r1, hr1⟩ : ∃ r1, tlC r = r1 := ⟨_, rfl⟩
        rw [hr1] at h93r
        have HSTEP := hide (fun W W' (hp : Rp W b A c zs r) (hb : Below W.heap.size W W') => hr1 ▸ rr_step hp hr0 hb k hk)
        obtain ⟨o2, ho2'⟩ : ∃ o2, itemP r1 = o2 := ⟨_, rfl⟩
        have hit2 := fun W (hp : Rp W b A c zs r1) => ritem_any hp h93r o2 ho2'
        unfold RitPost at hit2
        clear hNk hn hD hq hr hr0 h93r
        rcases o2 with _ | ⟨L2, d9, r2⟩
        · have hrp : rowsP l1 = none := by unfold rowsP; rw [HO1.out]; show (if c0.size = 0 then _ else _) = _; rw [if_neg hc0, HRG1.out, if_pos (by decide), hr1, ho2']
          have HE0 := hide (HR0.out (by rw [← ho2, hrp]))
          simp only [Option.isSome] at hit2
          have HIT2 := hide hit2
          clear hrp ho2 ho2' hit2 hr1 hc0 hcp hf hal
          go_wp2_with fail
          refine HT.out.mono ?_
          rintro e w2 ⟨rfl, hm2⟩
          have M2 : Hid (Rv (w1.alloc (.cells #[.int .i64 4, .string ⟨#[]⟩, .bool nt, .slice none 0 0, .int .i64 0, .int .i64 0, .bool false, .slice none 0 0] 25)) w2 b zs l1) := hide (HM.out.trans hm2)
          have HROW2 := hide (own_rv HROW.out hm2.1 HBB.out)
          clear hm2
          go_wp2_with fail
          refine (HIT.out _ (M2.out.pl HP1.out)).mono ?_
          rintro e w3 ⟨v, c0, rfl, ⟨k3, hmv⟩, hfv, hx⟩
          obtain ⟨hrv, hrw, rfl⟩ := hx _ rfl
          simp only at hrv hrw
          obtain ⟨vA, vc, rfl⟩ := rwat_len hrw
          clear hx hrw
          have M3 := hide (M2.out.trans hrv)
          have HROW3 := hide (own_rv HROW2.out hmv HBB.out)
          have HP3 := hide (show Rp (w3.alloc (.cells #[.string c0, .string c0] 43)) b A c zs r from (M3.out.pl HP1.out).bl (bl_alloc (bl_refl _) _))
          have HM3 := hide (show Rv (w1.alloc (.cells #[.int .i64 4, .string ⟨#[]⟩, .bool nt, .slice none 0 0, .int .i64 0, .int .i64 0, .bool false, .slice none 0 0] 25)) (w3.alloc (.cells #[.string c0, .string c0] 43)) b zs r from M3.out.bl (bl_alloc (bl_refl _) _))
          have hb3 : w1.heap.size + 1 ≤ w3.heap.size := by have := M3.out.1.grown.size; simpa using this
          have HB3 := hide hb3
          have HG3 := hide (show ∀ k, (Value.slice A1 acc.length c1).ownBlock = some k → k < w3.heap.size from fun k hk => (HROW3.out.lt k hk).2)
          have HRB := hide (show w3.heap.size ≠ b by have := HBB.out; omega)
          clear hmv hfv hrv hb3
          have HSE := hide (fun (u : Later (w3.alloc (.cells #[.string c0, .string c0] 43))) => HSE0.out u.now (HP3.out.bl u.below))
          have hpw := M3.out.pl HP1.out
          have p1 := hpw.row
          have p2 := hpw.pos
          rw [hk] at p2
          have hbw3 := hpw.lt
          have hbw4 : b < w3.heap.size + 1 := by omega
          have hbw5 : b ≠ w3.heap.size := by omega
          clear hpw
          rw [hN] at p1
          obtain ⟨g, rfl, hgb, p3⟩ := HCC.out _ (M3.out.pl HP1.out)
          have hgw := World.block_lt_of_cell? _ _ p3
          have hgw4 : g < w3.heap.size + 1 := Nat.lt_succ_of_lt hgw
          have hgw5 : g ≠ w3.heap.size := Nat.ne_of_lt hgw
          clear hN
          go_wp2_with fail
          refine wp_region_later (by kernel_rfl) (by kernel_rfl) ?_
          repeat (go_big_quiet_step (first | (go_at_call 56; exact later_call (HSE.out _)) | exact rfl))
          refine wpQuiet_nil ?_
          rintro w9 ⟨⟨_, hb9⟩, rfl⟩
          have p2' := cell_later hb9 (alloc_blk (o := (.cells #[.string c0, .string c0] 43)) p2)
          have pf' := (hb9.frozen (p := ⟨b, 1, none⟩) (by simpa using hbw4)).trans HP3.out.fz
          have M10 := hide (show Rv (w1.alloc (.cells #[.int .i64 4, .string ⟨#[]⟩, .bool nt, .slice none 0 0, .int .i64 0, .int .i64 0, .bool false, .slice none 0 0] 25)) (w9.setCell ⟨b, 1, none⟩ (.int .i64 ((k : Int) + 1))) b zs r1 from HM3.out.trans (HSTEP.out _ _ HP3.out hb9))
          have HROW10 := hide (own_rv (own_below HROW3.out (bl_alloc (bl_refl _) (.cells #[.string c0, .string c0] 43))) (HSTEP.out _ _ HP3.out hb9).1 HBB.out)
          have RC10 := hide (show ∀ j u, ([.string c0, .string c0] : List Value)[j]? = some u → (w9.setCell ⟨b, 1, none⟩ (.int .i64 ((k : Int) + 1))).cell? ⟨w3.heap.size, j, none⟩ = some u from fun j u hu => set_blk (cell_later hb9 (ks_alloc (W := w3) (T := 43) (cs := [.string c0, .string c0]) rfl j u hu)) (fun e => HRB.out e.symm))
          have RF10 := hide (show ∀ o, (w9.setCell ⟨b, 1, none⟩ (.int .i64 ((k : Int) + 1))).frozen? ⟨w3.heap.size, o, none⟩ = false from fun o => by rw [World.frozen?_setCell]; exact (hb9.frozen (p := ⟨w3.heap.size, o, none⟩) (by simp)).trans (by go_simp))
          have RS10 := hide (show w3.heap.size < (w9.setCell ⟨b, 1, none⟩ (.int .i64 ((k : Int) + 1))).heap.size by have := hb9.size; simp at this ⊢; omega)
          clear p1 p2 p3 hgw hgw4 hgw5 dd q1 q2 hbw3 hbw4 hbw5 hb9 hk
          go_wp2_with fail
          refine (HIT2.out _ (M10.out.pl HP1.out)).mono ?_
          rintro e w11 ⟨v2, d, rfl, ⟨k11, hmv⟩, hfv, hx⟩
          have HMT := hide (M10.out.1.trans hmv)
          have rc0 : w11.cell? ⟨w3.heap.size, 0, none⟩ = some (.string c0) := hmv.cell (RC10.out 0 _ rfl) HRB.out
          have rc1 : w11.cell? ⟨w3.heap.size, 1, none⟩ = some (.string c0) := hmv.cell (RC10.out 1 _ rfl) HRB.out
          have rf : ∀ o, w11.frozen? ⟨w3.heap.size, o, none⟩ = false := fun o => (hmv.frz (p := ⟨w3.heap.size, o, none⟩) RS10.out HRB.out).trans (RF10.out o)
          clear hmv hfv hx
          have HE := hide (HE0.out _ _ ⟨rfl, _, mvd8 (M1.out.1.trans HMT.out) HNB.out (Nat.le_refl _) 0 (.int .i64 0) 1 (.string ⟨#[]⟩) 2 (.bool false) 3 (.slice none 0 0) 4 (.int .i64 0) 5 (.int .i64 0) 6 (.bool false) 7 (.slice none 0 0)⟩)
          obtain ⟨z0, z1, z2, z3, z4, z5, z6, z7⟩ := (ZC.out.mv HMT.out HNB.out).eight
          have hf1 := (ZC.out.mv HMT.out HNB.out).f
          go_wp2
          refine bodyPost_ret (v := .tuple #[.agg #[.int .i64 0, .string ⟨#[]⟩, .bool false, .slice none 0 0, .int .i64 0, .int .i64 0, .bool false, .slice none 0 0], .int .i64 10]) ?_ rfl HE.out
          rw [results_cell2 rfl]
          go_simp
        obtain ⟨z, hz⟩ : ∃ z, bl d9 c0 = z := ⟨_, rfl⟩
        cases z
        rotate_left
        · have hrp : rowsP l1 = none := by unfold rowsP; rw [HO1.out]; show (if c0.size = 0 then _ else _) = _; rw [if_neg hc0, HRG1.out, if_pos (by decide), hr1, ho2']; show (if bl d9 c0 = true then none else _) = _; rw [if_pos hz]
          have HE0 := hide (HR0.out (by rw [← ho2, hrp]))
          simp only [Option.isSome] at hit2
          have HIT2 := hide hit2
          have hL2 : L2 = [] ∨ (0 < L2.length ∧ 0 < L2.length) := by rcases L2 with _ | ⟨x, y⟩ <;> simp
          clear hrp ho2 ho2' hit2 hr1 hc0 hcp hf hal
          rcases hL2 with rfl | ⟨hL2, _⟩
          · go_wp2_with fail
            refine HT.out.mono ?_
            rintro e w2 ⟨rfl, hm2⟩
            have M2 : Hid (Rv (w1.alloc (.cells #[.int .i64 4, .string ⟨#[]⟩, .bool nt, .slice none 0 0, .int .i64 0, .int .i64 0, .bool false, .slice none 0 0] 25)) w2 b zs l1) := hide (HM.out.trans hm2)
            have HROW2 := hide (own_rv HROW.out hm2.1 HBB.out)
            clear hm2
            go_wp2_with fail
            refine (HIT.out _ (M2.out.pl HP1.out)).mono ?_
            rintro e w3 ⟨v, c0, rfl, ⟨k3, hmv⟩, hfv, hx⟩
            obtain ⟨hrv, hrw, rfl⟩ := hx _ rfl
            simp only at hrv hrw
            obtain ⟨vA, vc, rfl⟩ := rwat_len hrw
            clear hx hrw
            have M3 := hide (M2.out.trans hrv)
            have HROW3 := hide (own_rv HROW2.out hmv HBB.out)
            have HP3 := hide (show Rp (w3.alloc (.cells #[.string c0, .string c0] 43)) b A c zs r from (M3.out.pl HP1.out).bl (bl_alloc (bl_refl _) _))
            have HM3 := hide (show Rv (w1.alloc (.cells #[.int .i64 4, .string ⟨#[]⟩, .bool nt, .slice none 0 0, .int .i64 0, .int .i64 0, .bool false, .slice none 0 0] 25)) (w3.alloc (.cells #[.string c0, .string c0] 43)) b zs r from M3.out.bl (bl_alloc (bl_refl _) _))
            have hb3 : w1.heap.size + 1 ≤ w3.heap.size := by have := M3.out.1.grown.size; simpa using this
            have HB3 := hide hb3
            have HG3 := hide (show ∀ k, (Value.slice A1 acc.length c1).ownBlock = some k → k < w3.heap.size from fun k hk => (HROW3.out.lt k hk).2)
            have HRB := hide (show w3.heap.size ≠ b by have := HBB.out; omega)
            clear hmv hfv hrv hb3
            have HSE := hide (fun (u : Later (w3.alloc (.cells #[.string c0, .string c0] 43))) => HSE0.out u.now (HP3.out.bl u.below))
            have hpw := M3.out.pl HP1.out
            have p1 := hpw.row
            have p2 := hpw.pos
            rw [hk] at p2
            have hbw3 := hpw.lt
            have hbw4 : b < w3.heap.size + 1 := by omega
            have hbw5 : b ≠ w3.heap.size := by omega
            clear hpw
            rw [hN] at p1
            obtain ⟨g, rfl, hgb, p3⟩ := HCC.out _ (M3.out.pl HP1.out)
            have hgw := World.block_lt_of_cell? _ _ p3
            have hgw4 : g < w3.heap.size + 1 := Nat.lt_succ_of_lt hgw
            have hgw5 : g ≠ w3.heap.size := Nat.ne_of_lt hgw
            clear hN
            go_wp2_with fail
            refine wp_region_later (by kernel_rfl) (by kernel_rfl) ?_
            repeat (go_big_quiet_step (first | (go_at_call 56; exact later_call (HSE.out _)) | exact rfl))
            refine wpQuiet_nil ?_
            rintro w9 ⟨⟨_, hb9⟩, rfl⟩
            have p2' := cell_later hb9 (alloc_blk (o := (.cells #[.string c0, .string c0] 43)) p2)
            have pf' := (hb9.frozen (p := ⟨b, 1, none⟩) (by simpa using hbw4)).trans HP3.out.fz
            have M10 := hide (show Rv (w1.alloc (.cells #[.int .i64 4, .string ⟨#[]⟩, .bool nt, .slice none 0 0, .int .i64 0, .int .i64 0, .bool false, .slice none 0 0] 25)) (w9.setCell ⟨b, 1, none⟩ (.int .i64 ((k : Int) + 1))) b zs r1 from HM3.out.trans (HSTEP.out _ _ HP3.out hb9))
            have HROW10 := hide (own_rv (own_below HROW3.out (bl_alloc (bl_refl _) (.cells #[.string c0, .string c0] 43))) (HSTEP.out _ _ HP3.out hb9).1 HBB.out)
            have RC10 := hide (show ∀ j u, ([.string c0, .string c0] : List Value)[j]? = some u → (w9.setCell ⟨b, 1, none⟩ (.int .i64 ((k : Int) + 1))).cell? ⟨w3.heap.size, j, none⟩ = some u from fun j u hu => set_blk (cell_later hb9 (ks_alloc (W := w3) (T := 43) (cs := [.string c0, .string c0]) rfl j u hu)) (fun e => HRB.out e.symm))
            have RF10 := hide (show ∀ o, (w9.setCell ⟨b, 1, none⟩ (.int .i64 ((k : Int) + 1))).frozen? ⟨w3.heap.size, o, none⟩ = false from fun o => by rw [World.frozen?_setCell]; exact (hb9.frozen (p := ⟨w3.heap.size, o, none⟩) (by simp)).trans (by go_simp))
            have RS10 := hide (show w3.heap.size < (w9.setCell ⟨b, 1, none⟩ (.int .i64 ((k : Int) + 1))).heap.size by have := hb9.size; simp at this ⊢; omega)
            clear p1 p2 p3 hgw hgw4 hgw5 dd q1 q2 hbw3 hbw4 hbw5 hb9 hk
            go_wp2_with fail
            refine (HIT2.out _ (M10.out.pl HP1.out)).mono ?_
            rintro e w11 ⟨v2, d8, rfl, ⟨k11, hmv⟩, hfv, hx⟩
            have HMT := hide (M10.out.1.trans hmv)
            have rc0 : w11.cell? ⟨w3.heap.size, 0, none⟩ = some (.string c0) := hmv.cell (RC10.out 0 _ rfl) HRB.out
            have rc1 : w11.cell? ⟨w3.heap.size, 1, none⟩ = some (.string c0) := hmv.cell (RC10.out 1 _ rfl) HRB.out
            have rf : ∀ o, w11.frozen? ⟨w3.heap.size, o, none⟩ = false := fun o => (hmv.frz (p := ⟨w3.heap.size, o, none⟩) RS10.out HRB.out).trans (RF10.out o)
            obtain ⟨_, hrw, rfl⟩ := hx _ rfl
            simp only at hrw
            obtain ⟨vA, vc, rfl⟩ := rwat_len hrw
            clear hmv hfv hx hrw
            have HE := hide (HE0.out _ _ ⟨rfl, _, mvd8 (M1.out.1.trans HMT.out) HNB.out (Nat.le_refl _) 0 (.int .i64 0) 1 (.string ⟨#[]⟩) 2 (.bool false) 3 (.slice none 0 0) 4 (.int .i64 0) 5 (.int .i64 0) 6 (.bool false) 7 (.slice none 0 0)⟩)
            obtain ⟨z0, z1, z2, z3, z4, z5, z6, z7⟩ := (ZC.out.mv HMT.out HNB.out).eight
            have hf1 := (ZC.out.mv HMT.out HNB.out).f
            go_wp2
            refine bodyPost_ret (v := .tuple #[.agg #[.int .i64 0, .string ⟨#[]⟩, .bool false, .slice none 0 0, .int .i64 0, .int .i64 0, .bool false, .slice none 0 0], .int .i64 10]) ?_ rfl HE.out
            rw [results_cell2 rfl]
            go_simp
          · have d1 : decide ((0 : Int) < (L2.length : Int)) = true := decide_eq_true (by omega)
            have d2 : decide (0 < L2.length) = true := decide_eq_true hL2
            clear hL2
            go_wp2_with fail
            refine HT.out.mono ?_
            rintro e w2 ⟨rfl, hm2⟩
            have M2 : Hid (Rv (w1.alloc (.cells #[.int .i64 4, .string ⟨#[]⟩, .bool nt, .slice none 0 0, .int .i64 0, .int .i64 0, .bool false, .slice none 0 0] 25)) w2 b zs l1) := hide (HM.out.trans hm2)
            have HROW2 := hide (own_rv HROW.out hm2.1 HBB.out)
            clear hm2
            go_wp2_with fail
            refine (HIT.out _ (M2.out.pl HP1.out)).mono ?_
            rintro e w3 ⟨v, c0, rfl, ⟨k3, hmv⟩, hfv, hx⟩
            obtain ⟨hrv, hrw, rfl⟩ := hx _ rfl
            simp only at hrv hrw
            obtain ⟨vA, vc, rfl⟩ := rwat_len hrw
            clear hx hrw
            have M3 := hide (M2.out.trans hrv)
            have HROW3 := hide (own_rv HROW2.out hmv HBB.out)
            have HP3 := hide (show Rp (w3.alloc (.cells #[.string c0, .string c0] 43)) b A c zs r from (M3.out.pl HP1.out).bl (bl_alloc (bl_refl _) _))
            have HM3 := hide (show Rv (w1.alloc (.cells #[.int .i64 4, .string ⟨#[]⟩, .bool nt, .slice none 0 0, .int .i64 0, .int .i64 0, .bool false, .slice none 0 0] 25)) (w3.alloc (.cells #[.string c0, .string c0] 43)) b zs r from M3.out.bl (bl_alloc (bl_refl _) _))
            have hb3 : w1.heap.size + 1 ≤ w3.heap.size := by have := M3.out.1.grown.size; simpa using this
            have HB3 := hide hb3
            have HG3 := hide (show ∀ k, (Value.slice A1 acc.length c1).ownBlock = some k → k < w3.heap.size from fun k hk => (HROW3.out.lt k hk).2)
            have HRB := hide (show w3.heap.size ≠ b by have := HBB.out; omega)
            clear hmv hfv hrv hb3
            have HSE := hide (fun (u : Later (w3.alloc (.cells #[.string c0, .string c0] 43))) => HSE0.out u.now (HP3.out.bl u.below))
            have hpw := M3.out.pl HP1.out
            have p1 := hpw.row
            have p2 := hpw.pos
            rw [hk] at p2
            have hbw3 := hpw.lt
            have hbw4 : b < w3.heap.size + 1 := by omega
            have hbw5 : b ≠ w3.heap.size := by omega
            clear hpw
            rw [hN] at p1
            obtain ⟨g, rfl, hgb, p3⟩ := HCC.out _ (M3.out.pl HP1.out)
            have hgw := World.block_lt_of_cell? _ _ p3
            have hgw4 : g < w3.heap.size + 1 := Nat.lt_succ_of_lt hgw
            have hgw5 : g ≠ w3.heap.size := Nat.ne_of_lt hgw
            clear hN
            go_wp2_with fail
            refine wp_region_later (by kernel_rfl) (by kernel_rfl) ?_
            repeat (go_big_quiet_step (first | (go_at_call 56; exact later_call (HSE.out _)) | exact rfl))
            refine wpQuiet_nil ?_
            rintro w9 ⟨⟨_, hb9⟩, rfl⟩
            have p2' := cell_later hb9 (alloc_blk (o := (.cells #[.string c0, .string c0] 43)) p2)
            have pf' := (hb9.frozen (p := ⟨b, 1, none⟩) (by simpa using hbw4)).trans HP3.out.fz
            have M10 := hide (show Rv (w1.alloc (.cells #[.int .i64 4, .string ⟨#[]⟩, .bool nt, .slice none 0 0, .int .i64 0, .int .i64 0, .bool false, .slice none 0 0] 25)) (w9.setCell ⟨b, 1, none⟩ (.int .i64 ((k : Int) + 1))) b zs r1 from HM3.out.trans (HSTEP.out _ _ HP3.out hb9))
            have HROW10 := hide (own_rv (own_below HROW3.out (bl_alloc (bl_refl _) (.cells #[.string c0, .string c0] 43))) (HSTEP.out _ _ HP3.out hb9).1 HBB.out)
            have RC10 := hide (show ∀ j u, ([.string c0, .string c0] : List Value)[j]? = some u → (w9.setCell ⟨b, 1, none⟩ (.int .i64 ((k : Int) + 1))).cell? ⟨w3.heap.size, j, none⟩ = some u from fun j u hu => set_blk (cell_later hb9 (ks_alloc (W := w3) (T := 43) (cs := [.string c0, .string c0]) rfl j u hu)) (fun e => HRB.out e.symm))
            have RF10 := hide (show ∀ o, (w9.setCell ⟨b, 1, none⟩ (.int .i64 ((k : Int) + 1))).frozen? ⟨w3.heap.size, o, none⟩ = false from fun o => by rw [World.frozen?_setCell]; exact (hb9.frozen (p := ⟨w3.heap.size, o, none⟩) (by simp)).trans (by go_simp))
            have RS10 := hide (show w3.heap.size < (w9.setCell ⟨b, 1, none⟩ (.int .i64 ((k : Int) + 1))).heap.size by have := hb9.size; simp at this ⊢; omega)
            clear p1 p2 p3 hgw hgw4 hgw5 dd q1 q2 hbw3 hbw4 hbw5 hb9 hk
            go_wp2_with fail
            refine (HIT2.out _ (M10.out.pl HP1.out)).mono ?_
            rintro e w11 ⟨v2, d8, rfl, ⟨k11, hmv⟩, hfv, hx⟩
            have HMT := hide (M10.out.1.trans hmv)
            have rc0 : w11.cell? ⟨w3.heap.size, 0, none⟩ = some (.string c0) := hmv.cell (RC10.out 0 _ rfl) HRB.out
            have rc1 : w11.cell? ⟨w3.heap.size, 1, none⟩ = some (.string c0) := hmv.cell (RC10.out 1 _ rfl) HRB.out
            have rf : ∀ o, w11.frozen? ⟨w3.heap.size, o, none⟩ = false := fun o => (hmv.frz (p := ⟨w3.heap.size, o, none⟩) RS10.out HRB.out).trans (RF10.out o)
            obtain ⟨_, hrw, rfl⟩ := hx _ rfl
            simp only at hrw
            obtain ⟨vA, vc, rfl⟩ := rwat_len hrw
            clear hmv hfv hx hrw
            have HE := hide (HE0.out _ _ ⟨rfl, _, mvd8 (M1.out.1.trans HMT.out) HNB.out (Nat.le_refl _) 0 (.int .i64 0) 1 (.string ⟨#[]⟩) 2 (.bool false) 3 (.slice none 0 0) 4 (.int .i64 0) 5 (.int .i64 0) 6 (.bool false) 7 (.slice none 0 0)⟩)
            obtain ⟨z0, z1, z2, z3, z4, z5, z6, z7⟩ := (ZC.out.mv HMT.out HNB.out).eight
            have hf1 := (ZC.out.mv HMT.out HNB.out).f
            go_wp2
            refine bodyPost_ret (v := .tuple #[.agg #[.int .i64 0, .string ⟨#[]⟩, .bool false, .slice none 0 0, .int .i64 0, .int .i64 0, .bool false, .slice none 0 0], .int .i64 10]) ?_ rfl HE.out
            rw [results_cell2 rfl]
            go_simp
        · have hL2 : L2 = [] := by
            rcases itemP_form ho2' with h | h
            · have hd0 : d9 = ⟨#[]⟩ := ext _ _ (List.eq_nil_of_length_eq_zero ((show d9.data.toList.length = d9.size from Array.length_toList).trans h.1))
              rw [hd0, bl_nil hcp] at hz
              cases hz
            · exact h.2
          subst hL2
          have hrp : rowsP l1 = some ([(c0, d9)], r2) := by unfold rowsP; rw [HO1.out]; show (if c0.size = 0 then _ else _) = _; rw [if_neg hc0, HRG1.out, if_pos (by decide), hr1, ho2']; show (if bl d9 c0 = true then none else _) = _; rw [hz]; rfl
          rw [hrp] at ho2
          simp only at ho2
          obtain ⟨rk1, rk2, rk3⟩ := rowsP_ok hrp
          have HO3 := hide ho2
          have HSHL := hide (show ∀ x ∈ acc ++ [(c0, d9)], Short x from fun x hx => by
            rcases List.mem_append.1 hx with hx | hx
            · exact HSH.out x hx
            · have := rk3 x hx
              exact ⟨by omega, by omega⟩)
          have hal2 : (acc ++ [(c0, d9)]).length + 2 * r2.length ≤ 512 := by rw [List.length_append]; omega
          have hAL : acc.length ≤ 512 := by omega
          have HAL2 := hide hal2
          have HFL := hide (show r2.length < f by omega)
          have HRL := hide rk1
          clear ho2 rk1 rk2 rk3 hal2 hal
          simp only [Option.isSome] at hit2
          have HIT2 := hide hit2
          clear hrp ho2' hit2 hr1 hc0 hcp hf
          go_wp2_with fail
          refine HT.out.mono ?_
          rintro e w2 ⟨rfl, hm2⟩
          have M2 : Hid (Rv (w1.alloc (.cells #[.int .i64 4, .string ⟨#[]⟩, .bool nt, .slice none 0 0, .int .i64 0, .int .i64 0, .bool false, .slice none 0 0] 25)) w2 b zs l1) := hide (HM.out.trans hm2)
          have HROW2 := hide (own_rv HROW.out hm2.1 HBB.out)
          clear hm2
          go_wp2_with fail
          refine (HIT.out _ (M2.out.pl HP1.out)).mono ?_
          rintro e w3 ⟨v, c0, rfl, ⟨k3, hmv⟩, hfv, hx⟩
          obtain ⟨hrv, hrw, rfl⟩ := hx _ rfl
          simp only at hrv hrw
          obtain ⟨vA, vc, rfl⟩ := rwat_len hrw
          clear hx hrw
          have M3 := hide (M2.out.trans hrv)
          have HROW3 := hide (own_rv HROW2.out hmv HBB.out)
          have HP3 := hide (show Rp (w3.alloc (.cells #[.string c0, .string c0] 43)) b A c zs r from (M3.out.pl HP1.out).bl (bl_alloc (bl_refl _) _))
          have HM3 := hide (show Rv (w1.alloc (.cells #[.int .i64 4, .string ⟨#[]⟩, .bool nt, .slice none 0 0, .int .i64 0, .int .i64 0, .bool false, .slice none 0 0] 25)) (w3.alloc (.cells #[.string c0, .string c0] 43)) b zs r from M3.out.bl (bl_alloc (bl_refl _) _))
          have hb3 : w1.heap.size + 1 ≤ w3.heap.size := by have := M3.out.1.grown.size; simpa using this
          have HB3 := hide hb3
          have HG3 := hide (show ∀ k, (Value.slice A1 acc.length c1).ownBlock = some k → k < w3.heap.size from fun k hk => (HROW3.out.lt k hk).2)
          have HRB := hide (show w3.heap.size ≠ b by have := HBB.out; omega)
          clear hmv hfv hrv hb3
          have HSE := hide (fun (u : Later (w3.alloc (.cells #[.string c0, .string c0] 43))) => HSE0.out u.now (HP3.out.bl u.below))
          have hpw := M3.out.pl HP1.out
          have p1 := hpw.row
          have p2 := hpw.pos
          rw [hk] at p2
          have hbw3 := hpw.lt
          have hbw4 : b < w3.heap.size + 1 := by omega
          have hbw5 : b ≠ w3.heap.size := by omega
          clear hpw
          rw [hN] at p1
          obtain ⟨g, rfl, hgb, p3⟩ := HCC.out _ (M3.out.pl HP1.out)
          have hgw := World.block_lt_of_cell? _ _ p3
          have hgw4 : g < w3.heap.size + 1 := Nat.lt_succ_of_lt hgw
          have hgw5 : g ≠ w3.heap.size := Nat.ne_of_lt hgw
          clear hN
          go_wp2_with fail
          refine wp_region_later (by kernel_rfl) (by kernel_rfl) ?_
          repeat (go_big_quiet_step (first | (go_at_call 56; exact later_call (HSE.out _)) | exact rfl))
          refine wpQuiet_nil ?_
          rintro w9 ⟨⟨_, hb9⟩, rfl⟩
          have p2' := cell_later hb9 (alloc_blk (o := (.cells #[.string c0, .string c0] 43)) p2)
          have pf' := (hb9.frozen (p := ⟨b, 1, none⟩) (by simpa using hbw4)).trans HP3.out.fz
          have M10 := hide (show Rv (w1.alloc (.cells #[.int .i64 4, .string ⟨#[]⟩, .bool nt, .slice none 0 0, .int .i64 0, .int .i64 0, .bool false, .slice none 0 0] 25)) (w9.setCell ⟨b, 1, none⟩ (.int .i64 ((k : Int) + 1))) b zs r1 from HM3.out.trans (HSTEP.out _ _ HP3.out hb9))
          have HROW10 := hide (own_rv (own_below HROW3.out (bl_alloc (bl_refl _) (.cells #[.string c0, .string c0] 43))) (HSTEP.out _ _ HP3.out hb9).1 HBB.out)
          have RC10 := hide (show ∀ j u, ([.string c0, .string c0] : List Value)[j]? = some u → (w9.setCell ⟨b, 1, none⟩ (.int .i64 ((k : Int) + 1))).cell? ⟨w3.heap.size, j, none⟩ = some u from fun j u hu => set_blk (cell_later hb9 (ks_alloc (W := w3) (T := 43) (cs := [.string c0, .string c0]) rfl j u hu)) (fun e => HRB.out e.symm))
          have RF10 := hide (show ∀ o, (w9.setCell ⟨b, 1, none⟩ (.int .i64 ((k : Int) + 1))).frozen? ⟨w3.heap.size, o, none⟩ = false from fun o => by rw [World.frozen?_setCell]; exact (hb9.frozen (p := ⟨w3.heap.size, o, none⟩) (by simp)).trans (by go_simp))
          have RS10 := hide (show w3.heap.size < (w9.setCell ⟨b, 1, none⟩ (.int .i64 ((k : Int) + 1))).heap.size by have := hb9.size; simp at this ⊢; omega)
          clear p1 p2 p3 hgw hgw4 hgw5 dd q1 q2 hbw3 hbw4 hbw5 hb9 hk
          go_wp2_with fail
          refine (HIT2.out _ (M10.out.pl HP1.out)).mono ?_
          rintro e w11 ⟨v2, d8, rfl, ⟨k11, hmv⟩, hfv, hx⟩
          have HMT := hide (M10.out.1.trans hmv)
          have rc0 : w11.cell? ⟨w3.heap.size, 0, none⟩ = some (.string c0) := hmv.cell (RC10.out 0 _ rfl) HRB.out
          have rc1 : w11.cell? ⟨w3.heap.size, 1, none⟩ = some (.string c0) := hmv.cell (RC10.out 1 _ rfl) HRB.out
          have rf : ∀ o, w11.frozen? ⟨w3.heap.size, o, none⟩ = false := fun o => (hmv.frz (p := ⟨w3.heap.size, o, none⟩) RS10.out HRB.out).trans (RF10.out o)
          obtain ⟨hrv, hrw, rfl⟩ := hx _ rfl
          simp only at hrw hrv
          obtain ⟨vA, vc, rfl⟩ := rwat_len hrw
          have HM11 := hide (M10.out.trans hrv)
          have HM11s := hide (HM11.out.put HRB.out (Nat.le_trans (show (w1.alloc (.cells #[.int .i64 4, .string ⟨#[]⟩, .bool nt, .slice none 0 0, .int .i64 0, .int .i64 0, .bool false, .slice none 0 0] 25)).heap.size ≤ w1.heap.size + 1 by simp) HB3.out) 1 (.string d8))
          have HROW11 := hide (own_put1 (own_rv HROW10.out hmv HBB.out) HG3.out 1 (.string d8))
          have hb9s : w1.heap.size + 1 ≤ w11.heap.size := Nat.le_trans HB3.out (Nat.le_trans (Nat.le_of_lt RS10.out) hmv.grown.size)
          have HB9s := hide hb9s
          have HRK := hide (show (splitL r2).length < (splitL l1).length ∧ (splitL l1).length ≤ zs.length from ⟨spl_lt HM.out.2 HM11.out.2 HRL.out, HPL.out.le⟩)
          clear hmv hfv hx hrw hrv hb9s
          go_wp2_with (at_builtin; go_must (refine wpList_src _ rfl _ _ 22 rfl (w1.heap.size + 1) 43 i0 (.agg #[.string ⟨#[]⟩, .string ⟨#[]⟩]) 2 32 Try.underlying22 hi0 hz0' hz1 hz2 rfl (by decide) (.slice A1 acc.length c1) acc.length (flatR acc) rfl (own_below HROW11.out (bl_alloc (bl_refl _) _)) (some ⟨_, 0, none⟩) 1 1 [.string c0, .string d8] rfl (src_block (cs := #[.string c0, .string d8]) (heap_new (by simp)) rfl) (one_cellR [(c0, d8)]) (by omega) (by decide) (Nat.le_trans HB9s.out (by simp)) ?_); rintro v' w19 hv9 hg9)
          have hm9 := (HM11s.out.bl (bl_alloc (bl_refl _) _)).appendv (own_below HROW11.out (bl_alloc (bl_refl _) _)) hg9 HBB.out (by simp)
          have HM9 := hide hm9
          obtain ⟨A', c', rfl⟩ := own_slice hv9
          have HROW9 := hide (show w19.ownsRow (w1.heap.size + 1) 43 2 (.slice A' (acc ++ [(c0, d8)]).length c') (acc ++ [(c0, d8)]).length (flatR (acc ++ [(c0, d8)])) by
            rw [List.length_append, show flatR (acc ++ [(c0, d8)]) = flatR acc ++ flatR [(c0, d8)] from List.flatMap_append]; exact hv9)
          have HLEN := hide (show Value.slice A' (acc.length + 1) c' = .slice A' (acc ++ [(c0, d8)]).length c' by rw [List.length_append] <;> rfl)
          have HMS := hide (show zs.length - posOf w19 b < zs.length - posOf wr b by rw [posOf_rv hm9, posOf_rv HM.out]; have := HRK.out; omega)
          clear hv9 hg9 hm9
          go_wp2
          refine ⟨?_, HMS.out⟩
          first
            | exact ⟨acc ++ [(c0, d8)], r2, f, A', c', HLEN.out, HROW9, HM9, HO3, HFL.out, HAL2.out, HSHL⟩
            | ((repeat apply Exists.intro); exact ⟨⟨acc ++ [(c0, d8)], r2, f, A', c', HLEN.out, HROW9, HM9, HO3, HFL.out, HAL2.out, HSHL⟩, rfl⟩)
      · have hrp : rowsP l1 = some ([(c0, c0)], r) := by unfold rowsP; rw [HO1.out]; show (if c0.size = 0 then _ else _) = _; rw [if_neg hc0, HRG1.out]; rfl
        rw [hrp] at ho2
        simp only at ho2
        obtain ⟨rk1, rk2, rk3⟩ := rowsP_ok hrp
        have HO3 := hide ho2
        have HSHL := hide (show ∀ x ∈ acc ++ [(c0, c0)], Short x from fun x hx => by
          rcases List.mem_append.1 hx with hx | hx
          · exact HSH.out x hx
          · have := rk3 x hx
            exact ⟨by omega, by omega⟩)
        have hal2 : (acc ++ [(c0, c0)]).length + 2 * r.length ≤ 512 := by rw [List.length_append]; omega
        have hAL : acc.length ≤ 512 := by omega
        have HAL2 := hide hal2
        have HFL := hide (show r.length < f by omega)
        have HRL := hide rk1
        clear ho2 rk1 rk2 rk3 hal2 hal
        clear hrp hc0 hcp hf
        obtain ⟨yC, zC⟩ := lit_eq C #[45] true (by rw [hCd]; exact h45)
        clear hCd h45
        obtain ⟨N, hN⟩ : ∃ N, zs.length = N := ⟨_, rfl⟩
        have hNk : N ≤ 1000 := by rw [← hN]; exact HSZZ.out
        rw [hN] at hn
        have ew : IntKind.i64.wrap ((k : Int) + 1) = (k : Int) + 1 := by rw [IntKind.wrap_i64]; omega
        have dd : decide ((k : Int) + 1 < (N : Int)) = true := decide_eq_true (by omega)
        have q1 : (0 : Int) ≤ (k : Int) + 1 := by omega
        have q2 : (k : Int) + 1 < (N : Int) := by omega
        obtain ⟨yD, zD⟩ := lit_eq D #[93] true hD
        clear hNk hn hD hq hr
        go_wp2_with fail
        refine HT.out.mono ?_
        rintro e w2 ⟨rfl, hm2⟩
        have M2 : Hid (Rv (w1.alloc (.cells #[.int .i64 4, .string ⟨#[]⟩, .bool nt, .slice none 0 0, .int .i64 0, .int .i64 0, .bool false, .slice none 0 0] 25)) w2 b zs l1) := hide (HM.out.trans hm2)
        have HROW2 := hide (own_rv HROW.out hm2.1 HBB.out)
        clear hm2
        go_wp2_with fail
        refine (HIT.out _ (M2.out.pl HP1.out)).mono ?_
        rintro e w3 ⟨v, c0, rfl, ⟨k3, hmv⟩, hfv, hx⟩
        obtain ⟨hrv, hrw, rfl⟩ := hx _ rfl
        simp only at hrv hrw
        obtain ⟨vA, vc, rfl⟩ := rwat_len hrw
        clear hx hrw
        have M3 := hide (M2.out.trans hrv)
        have HROW3 := hide (own_rv HROW2.out hmv HBB.out)
        have HP3 := hide (show Rp (w3.alloc (.cells #[.string c0, .string c0] 43)) b A c zs r from (M3.out.pl HP1.out).bl (bl_alloc (bl_refl _) _))
        have HM3 := hide (show Rv (w1.alloc (.cells #[.int .i64 4, .string ⟨#[]⟩, .bool nt, .slice none 0 0, .int .i64 0, .int .i64 0, .bool false, .slice none 0 0] 25)) (w3.alloc (.cells #[.string c0, .string c0] 43)) b zs r from M3.out.bl (bl_alloc (bl_refl _) _))
        have hb3 : w1.heap.size + 1 ≤ w3.heap.size := by have := M3.out.1.grown.size; simpa using this
        have HB3 := hide hb3
        have HG3 := hide (show ∀ k, (Value.slice A1 acc.length c1).ownBlock = some k → k < w3.heap.size from fun k hk => (HROW3.out.lt k hk).2)
        have HRB := hide (show w3.heap.size ≠ b by have := HBB.out; omega)
        clear hmv hfv hrv hb3
        have HSE := hide (fun (u : Later (w3.alloc (.cells #[.string c0, .string c0] 43))) => HSE0.out u.now (HP3.out.bl u.below))
        have hpw := M3.out.pl HP1.out
        have p1 := hpw.row
        have p2 := hpw.pos
        rw [hk] at p2
        have hbw3 := hpw.lt
        have hbw4 : b < w3.heap.size + 1 := by omega
        have hbw5 : b ≠ w3.heap.size := by omega
        clear hpw
        rw [hN] at p1
        obtain ⟨g, rfl, hgb, p3⟩ := HCC.out _ (M3.out.pl HP1.out)
        have hgw := World.block_lt_of_cell? _ _ p3
        have hgw4 : g < w3.heap.size + 1 := Nat.lt_succ_of_lt hgw
        have hgw5 : g ≠ w3.heap.size := Nat.ne_of_lt hgw
        clear hk hN
        go_wp2_with fail
        refine wp_region_later (by kernel_rfl) (by kernel_rfl) ?_
        repeat (go_big_quiet_step (first | (go_at_call 56; exact later_call (HSE.out _)) | exact rfl))
        refine wpQuiet_nil ?_
        rintro w9 ⟨⟨_, hb9⟩, rfl⟩
        clear p1 p2 p3 hgw hgw4 hgw5 ew dd q1 q2 hbw3 hbw4 hbw5
        have rc0 := cell_later hb9 (alloc_row w3 c0 c0).1
        have rc1 := cell_later hb9 (alloc_row w3 c0 c0).2
        have HM9a := hide (HM3.out.bl hb9)
        have HROW9a := hide (own_below (own_below HROW3.out (bl_alloc (bl_refl _) (.cells #[.string c0, .string c0] 43))) hb9)
        have hb9s : w1.heap.size + 1 ≤ w9.heap.size := Nat.le_trans HB3.out (Nat.le_trans (by simp) hb9.size)
        have HB9s := hide hb9s
        have HRK := hide (show (splitL r).length < (splitL l1).length ∧ (splitL l1).length ≤ zs.length from ⟨spl_lt HM.out.2 M3.out.2 HRL.out, HPL.out.le⟩)
        clear hb9 hb9s
        go_wp2_with (at_builtin; go_must (refine wpList_src _ rfl _ _ 22 rfl (w1.heap.size + 1) 43 i0 (.agg #[.string ⟨#[]⟩, .string ⟨#[]⟩]) 2 32 Try.underlying22 hi0 hz0' hz1 hz2 rfl (by decide) (.slice A1 acc.length c1) acc.length (flatR acc) rfl (own_below HROW9a.out (bl_alloc (bl_refl w9) _)) (some ⟨_, 0, none⟩) 1 1 [.string c0, .string c0] rfl (src_block (cs := #[.string c0, .string c0]) (heap_new (by simp)) rfl) (one_cellR [(c0, c0)]) (by omega) (by decide) (Nat.le_trans HB9s.out (by simp)) ?_); rintro v' w19 hv9 hg9)
        have hm9 := (HM9a.out.bl (bl_alloc (bl_refl w9) _)).appendv (own_below HROW9a.out (bl_alloc (bl_refl w9) _)) hg9 HBB.out (by simp)
        have HM9 := hide hm9
        obtain ⟨A', c', rfl⟩ := own_slice hv9
        have HROW9 := hide (show w19.ownsRow (w1.heap.size + 1) 43 2 (.slice A' (acc ++ [(c0, c0)]).length c') (acc ++ [(c0, c0)]).length (flatR (acc ++ [(c0, c0)])) by
          rw [List.length_append, show flatR (acc ++ [(c0, c0)]) = flatR acc ++ flatR [(c0, c0)] from List.flatMap_append]; exact hv9)
        have HLEN := hide (show Value.slice A' (acc.length + 1) c' = .slice A' (acc ++ [(c0, c0)]).length c' by rw [List.length_append] <;> rfl)
        have HMS := hide (show zs.length - posOf w19 b < zs.length - posOf wr b by rw [posOf_rv hm9, posOf_rv HM.out]; have := HRK.out; omega)
        clear hv9 hg9 hm9
        go_wp2
        refine ⟨?_, HMS.out⟩
        first
          | exact ⟨acc ++ [(c0, c0)], r, f, A', c', HLEN.out, HROW9, HM9, HO3, HFL.out, HAL2.out, HSHL⟩
          | ((repeat apply Exists.intro); exact ⟨⟨acc ++ [(c0, c0)], r, f, A', c', HLEN.out, HROW9, HM9, HO3, HFL.out, HAL2.out, HSHL⟩, rfl⟩)
    · rw [if_pos rfl] at ho2
      have HE := hide (HR1.out acc (tlC l1) ho2.symm)
      obtain ⟨U, hU⟩ : ∃ U, uniF (sortS (okU acc)) = U := ⟨_, rfl⟩
      have HUN := hide (fun W (h : RwAt W (.slice A1 acc.length c1) acc) => runion_any _ acc W h (by omega) HSH.out)
      rw [hU] at HE HUN
      clear ho2 hU hq
      go_wp2_with fail
      refine HT.out.mono ?_
      rintro e w2 ⟨rfl, hm2⟩
      simp only [if_true] at hm2
      have M2 := hide (HM.out.trans hm2)
      have hrw2 := own_rwat (own_rv HROW.out hm2.1 HBB.out)
      have HRW2 := hide hrw2
      clear hm2 hrw2
      go_wp2_with fail
      refine (HUN.out _ HRW2.out).mono ?_
      rintro e w3 ⟨v', rfl, hb3, hown⟩
      have M3 := hide (M2.out.bl hb3)
      have hsz2 : w1.heap.size + 1 ≤ w2.heap.size := by have := M2.out.1.grown.size; simpa using this
      have hrwU := own_rwat hown
      have hfvU := own_frv hown
      obtain ⟨uA, uc, rfl⟩ := rwat_len hrwU
      have HRU := hide hrwU
      have HFU := hide hfvU
      have HSZ2 := hide hsz2
      have XC3 := hide (XC.out.mv M3.out.1 HXB.out)
      have ZC3 := hide (ZC.out.mv M3.out.1 HNB.out)
      obtain ⟨x0, x1, x2, x3, x4, x5, x6, x7⟩ := XC3.out.eight
      have hf2 := XC3.out.f
      obtain ⟨z0, z1, z2, z3, z4, z5, z6, z7⟩ := (ZC3.out).eight
      have hf1 := (ZC3.out).f
      have HM8 := hide (rv8 ((M1.out.trans M3.out).put HXB.out (Nat.le_of_lt HSZ1.out) 3 (.slice uA U.length uc)) HNB.out (Nat.le_refl _) 0 (.int .i64 4) 1 (.string ⟨#[]⟩) 2 (.bool nt) 3 (.slice uA U.length uc) 4 (.int .i64 0) 5 (.int .i64 0) 6 (.bool false) 7 (.slice none 0 0))
      clear hb3 hown hrwU hfvU hsz2
      have hne1 := HXZ.out
      have hne2 : w.heap.size ≠ w1.heap.size := fun e => hne1 e.symm
      go_wp2
      refine bodyPost_ret (v := .tuple #[.agg #[.int .i64 4, .string ⟨#[]⟩, .bool nt, .slice uA U.length uc, .int .i64 0, .int .i64 0, .bool false, .slice none 0 0], .int .i64 0]) ?_ rfl (HE.out _ _ ⟨.mk 4 ⟨#[]⟩ nt (.slice uA U.length uc) U 0 0 false (.slice none 0 0) [], rfl, HM8.out, ?_, ?_, ?_⟩)
      · rw [results_cell2 rfl]
        go_simp
      · exact .mk _ (rwat_kept HRU.out HFU.out (kept_trans (kept_set _ HSZ2.out _) (kept8 _ (Nat.lt_of_lt_of_le (Nat.lt_succ_of_lt HSZ1.out) HSZ2.out) _ _ _ _ _ _ _ _ _ _ _ _ _ _ _ _))) (.inl ⟨rfl, rfl⟩) (fun i hi => absurd hi (Nat.not_lt_zero _))
      · exact .mk _ (FrV.mono HFU.out (Nat.le_trans (Nat.le_of_lt (Nat.lt_succ_of_lt HSZ1.out)) HSZ2.out)) (frv0 _) (fun x hx => by cases hx)
      · rw [er_eq]; rfl
end
section
open Go.ChangeShapes Go.WideShapes Go.ChangeAt Go.RowKit
open SetM
attribute [local go_sem ↓] Go.wp_at_zero Go.wp_at_succ
set_option maxRecDepth 100000
set_option linter.unusedVariables false
attribute [local go_sem] later_cell later_frozen
/-- A part with one kid is there. -/
theorem rgrp_end {N : Nat} {w u W : World} {b g : Nat} {k : Int} {zs : List ByteArray} {r : List UInt8} {t : Rt} (hm : Rv w W b zs r) (ht : RxAt u t) (hk : Kept N u W) (hf : Fr N t) (hg : N ≤ g) (hN : w.heap.size ≤ N) (hc : ∀ j u, t.cs[j]? = some u → W.cell? ⟨g, j, none⟩ = some u) :
    RrPost w b zs (.ok (kdX k [er t]) r) (.returned (.tuple #[.agg #[.int .i64 k, .string ⟨#[]⟩, .bool false, .slice none 0 0, .int .i64 0, .int .i64 0, .bool false, .slice (some ⟨g, 0, none⟩) 1 1], .int .i64 0])) W := by
  refine ⟨.mk k ⟨#[]⟩ false (.slice none 0 0) [] 0 0 false (.slice (some ⟨g, 0, none⟩) 1 1) [t], rfl, hm, .mk _ (.inl ⟨rfl, rfl⟩) (ks1 hc) (fun i hi => ?_), .mk _ (frv0 _) (fun x len c e => ?_) (fun x hx => ?_), ?_⟩
  · have : i = 0 := by have : i < 1 := hi; omega
    subst this
    exact rx_kept ht hf hk
  · injection e with e; injection e with e; subst e; exact Nat.le_trans hN hg
  · have : x = t := by simpa using (show x ∈ [t] from hx)
    subst this; exact hf.mono hN
  · rw [er_eq]; rfl
theorem rrp_le {w w1 w' : World} {b k : Nat} {zs : List ByteArray} {l : List UInt8} {q : Res} {e : Ending} (hm : Rv w w1 b zs l) (h : RrPost w1 b zs q e w') : RrPost w b zs q e w' := by
  cases q with
  | no => exact h
  | err n => obtain ⟨h1, k, h2⟩ := h; exact ⟨h1, k, hm.1.trans h2⟩
  | ok x r => obtain ⟨t, h1, h2, h3, h4, h5⟩ := h; exact ⟨t, h1, hm.trans h2, h3, h4.mono hm.1.grown.size, h5⟩
theorem Rp.proper {w : World} {b : Nat} {A : Option Addr} {c : Nat} {zs : List ByteArray} {l : List UInt8} (h : Rp w b A c zs l) (hz : ∀ z ∈ zs, properB z.data.toList = true) (h0 : l ≠ []) : properB (hdC l) = true := by
  have hs := h.suf
  rw [split_cons h0] at hs
  obtain ⟨z, hz1, hz2⟩ := List.mem_map.1 (hs.subset (List.mem_cons_self))
  rw [← hz2]; exact hz z hz1
set_option maxHeartbeats 16000000 in
theorem ratom_any {w : World} {b : Nat} {A : Option Addr} {c : Nat} {zs : List ByteArray} {l : List UInt8} (h : Rp w b A c zs l) (hl : l.length ≤ 256) (hne : endB l = false) (hpr : ∀ z ∈ zs, properB z.data.toList = true)
    (h98 : hdC l = [92] → hdC (tlC l) ≠ [98] ∧ hdC (tlC l) ≠ [66]) (d : Nat) (hd : d ≤ 16) (pat : List UInt8 → Res) (hgd : d < 16 → ∀ l, Gd 0 2 l (pat l))
    (HPAT : d < 16 → ∀ W l', l'.length ≤ 256 → Rp W b A c zs l' → Calls Try.prog 46 #[.pointer (some ⟨b, 0, none⟩), .int .i64 ((d : Int) + 1)] W (RrPost W b zs (pat l')))
    (res : Res) (ho : atomP (d == 16) pat l = res) : Calls Try.prog 64 #[.pointer (some ⟨b, 0, none⟩), .int .i64 (d : Int)] w (RrPost w b zs res) := by
  have hbw := h.lt
  have HS := hide h
  have HNB := hide (show w.heap.size ≠ b by omega)
  have HP0 := hide (h.bl (bl_alloc (bl_refl w) (.cells #[.int .i64 0, .string ⟨#[]⟩, .bool false, .slice none 0 0, .int .i64 0, .int .i64 0, .bool false, .slice none 0 0] 25)))
  have HSELF := hide (HS.out.self (bl_alloc (bl_refl w) (.cells #[.int .i64 0, .string ⟨#[]⟩, .bool false, .slice none 0 0, .int .i64 0, .int .i64 0, .bool false, .slice none 0 0] 25)))
  have Z0 := hide (show Cl (w.alloc (.cells #[.int .i64 0, .string ⟨#[]⟩, .bool false, .slice none 0 0, .int .i64 0, .int .i64 0, .bool false, .slice none 0 0] 25)) w.heap.size [.int .i64 0, .string ⟨#[]⟩, .bool false, .slice none 0 0, .int .i64 0, .int .i64 0, .bool false, .slice none 0 0] from cl_alloc w [.int .i64 0, .string ⟨#[]⟩, .bool false, .slice none 0 0, .int .i64 0, .int .i64 0, .bool false, .slice none 0 0] _)
  have hl0 : l ≠ [] := by rintro rfl; cases hne
  have hprh := h.proper hpr hl0
  have hHD := h.hd_le
  unfold atomP at ho
  obtain ⟨r1, hr1⟩ : ∃ r1, tlC l = r1 := ⟨_, rfl⟩
  have hrl : r1.length ≤ 256 := by rw [← hr1]; have := tl_le l; omega
  have HHPT := hide HPAT
  have HHGD := hide hgd
  have HHPR := hide hpr
  clear HPAT hgd hpr
  rcases hq0 : (hdC l == [46]) with _ | _
  rotate_left
  · rw [hq0, if_pos rfl, hr1] at ho
    subst ho
    have HTT : Hid (∀ W, Rp W b A c zs l → Calls Try.prog 58 #[.pointer (some ⟨b, 0, none⟩), .string ⟨#[46]⟩] W fun e w' => e = .returned (.bool true) ∧ Rv W w' b zs r1) := hide (fun W hp => by rw [← hr1]; exact rr_take hp ⟨#[46]⟩ (by decide) true hq0)
    clear hr1 hq0
    clear h98 hprh hHD hne hl0
    go_enter Try.func64, Try.ntmps64
    go_wp2_with fail
    refine (HTT.out _ HP0.out).mono ?_
    rintro e w2 ⟨rfl, hm⟩
    have M2 : Hid (Rv (w.alloc (.cells #[.int .i64 0, .string ⟨#[]⟩, .bool false, .slice none 0 0, .int .i64 0, .int .i64 0, .bool false, .slice none 0 0] 25)) w2 b zs r1) := hide hm
    clear hm
    have Z2 := hide (Z0.out.mv M2.out.1 HNB.out)
    have M2w := hide (HSELF.out.trans M2.out)
    obtain ⟨z0, z1, z2, z3, z4, z5, z6, z7⟩ := (Z2.out).eight
    have hf1 := (Z2.out).f
    go_wp2
    refine bodyPost_ret (v := .tuple #[.agg #[.int .i64 3, .string ⟨#[]⟩, .bool false, .slice none 0 0, .int .i64 0, .int .i64 0, .bool false, .slice none 0 0], .int .i64 0]) ?_ rfl ⟨kdX 3 [], rfl, (rv8 (M2w.out) HNB.out (Nat.le_refl _) _ _ _ _ _ _ _ _ _ _ _ _ _ _ _ _), rx_leaf _ _ rfl rfl rfl rfl, fr_leaf _ _ rfl rfl rfl, rfl⟩
    rw [results_cell2 rfl]
    go_simp
  rw [hq0, if_neg (by decide)] at ho
  have HT0 := hide (fun W (hp : Rp W b A c zs l) => rr_take hp ⟨#[46]⟩ (by decide) false hq0)
  clear hq0
  rcases hq1 : (hdC l == [40]) with _ | _
  rotate_left
  · rw [hq1, if_pos rfl, hr1] at ho
    unfold grpP at ho
    by_cases hd16 : d = 16
    · subst hd16
      rw [if_pos (by decide)] at ho
      subst ho
      have HTT : Hid (∀ W, Rp W b A c zs l → Calls Try.prog 58 #[.pointer (some ⟨b, 0, none⟩), .string ⟨#[40]⟩] W fun e w' => e = .returned (.bool true) ∧ Rv W w' b zs r1) := hide (fun W hp => by rw [← hr1]; exact rr_take hp ⟨#[40]⟩ (by decide) true hq1)
      clear hr1 hq1
      clear h98 hprh hHD hne hl0
      go_enter Try.func64, Try.ntmps64
      go_wp2_with fail
      refine (HT0.out _ HP0.out).mono ?_
      rintro e u0 ⟨rfl, hm⟩
      have N0 : Hid (Rv (w.alloc (.cells #[.int .i64 0, .string ⟨#[]⟩, .bool false, .slice none 0 0, .int .i64 0, .int .i64 0, .bool false, .slice none 0 0] 25)) u0 b zs l) := hide hm
      clear hm
      go_wp2_with fail
      refine (HTT.out _ (N0.out.pl HP0.out)).mono ?_
      rintro e w2 ⟨rfl, hm⟩
      have M2 : Hid (Rv (w.alloc (.cells #[.int .i64 0, .string ⟨#[]⟩, .bool false, .slice none 0 0, .int .i64 0, .int .i64 0, .bool false, .slice none 0 0] 25)) w2 b zs r1) := hide (N0.out.trans hm)
      clear hm
      have Z2 := hide (Z0.out.mv M2.out.1 HNB.out)
      have M2w := hide (HSELF.out.trans M2.out)
      obtain ⟨z0, z1, z2, z3, z4, z5, z6, z7⟩ := (Z2.out).eight
      have hf1 := (Z2.out).f
      go_wp2
      refine bodyPost_ret (v := .tuple #[.agg #[.int .i64 0, .string ⟨#[]⟩, .bool false, .slice none 0 0, .int .i64 0, .int .i64 0, .bool false, .slice none 0 0], .int .i64 8]) ?_ rfl ⟨rfl, _, (mvd8 (M2w.out.1) HNB.out (Nat.le_refl _) _ _ _ _ _ _ _ _ _ _ _ _ _ _ _ _)⟩
      rw [results_cell2 rfl]
      go_simp
    have hd9 : d < 16 := by omega
    have d16 : (d == 16) = false := by rw [Bool.eq_false_iff]; intro h; exact hd16 (beq_iff_eq.1 h)
    rw [d16, if_neg (by decide)] at ho
    have gd1 : decide ((16 : Int) ≤ (d : Int)) = false := decide_eq_false (by omega)
    have gd2 : decide (16 ≤ d) = false := decide_eq_false (by omega)
    have ew : IntKind.i64.wrap ((d : Int) + 1) = (d : Int) + 1 := by rw [IntKind.wrap_i64]; omega
    have HPT := hide (HHPT.out hd9)
    have HGD := hide (HHGD.out hd9)
    have HTT : Hid (∀ W, Rp W b A c zs l → Calls Try.prog 58 #[.pointer (some ⟨b, 0, none⟩), .string ⟨#[40]⟩] W fun e w' => e = .returned (.bool true) ∧ Rv W w' b zs r1) := hide (fun W hp => by rw [← hr1]; exact rr_take hp ⟨#[40]⟩ (by decide) true hq1)
    obtain ⟨q5, hq5⟩ : ∃ q, (hdC r1 == [63]) = q := ⟨_, rfl⟩
    have HT5 := hide (fun W (hp : Rp W b A c zs r1) => rr_take hp ⟨#[63]⟩ (by decide) q5 hq5)
    rw [hq5] at ho
    clear hr1 hq1 hq5 hd16 hd9 d16
    clear h98 hprh hHD hne hl0
    cases q5
    · rw [if_neg (by decide)] at ho
      have hgp := HGD.out r1
      have HPC := hide (HPT.out · r1 hrl)
      obtain ⟨p, hp⟩ : ∃ p, pat r1 = p := ⟨_, rfl⟩
      rw [hp] at hgp HPC ho
      clear hp
      rcases p with _ | n | ⟨xx, r8⟩
      · exact hgp.elim
      · simp only [grpE] at ho
        subst ho
        go_enter Try.func64, Try.ntmps64
        go_wp2_with fail
        refine (HT0.out _ HP0.out).mono ?_
        rintro e u0 ⟨rfl, hm⟩
        have N0 : Hid (Rv (w.alloc (.cells #[.int .i64 0, .string ⟨#[]⟩, .bool false, .slice none 0 0, .int .i64 0, .int .i64 0, .bool false, .slice none 0 0] 25)) u0 b zs l) := hide hm
        clear hm
        go_wp2_with fail
        refine (HTT.out _ (N0.out.pl HP0.out)).mono ?_
        rintro e w2 ⟨rfl, hm⟩
        have M2 : Hid (Rv (w.alloc (.cells #[.int .i64 0, .string ⟨#[]⟩, .bool false, .slice none 0 0, .int .i64 0, .int .i64 0, .bool false, .slice none 0 0] 25)) w2 b zs r1) := hide (N0.out.trans hm)
        clear hm
        have Z2 := hide (Z0.out.mv M2.out.1 HNB.out)
        have M2w := hide (HSELF.out.trans M2.out)
        have Z3 := hide (Z2.out.bl (bl_alloc (bl_refl _) (.cells #[.int .i64 5, .string ⟨#[]⟩, .bool false, .slice none 0 0, .int .i64 0, .int .i64 0, .bool false, .slice none 0 0] 25)))
        have X3 := hide (show Cl (w2.alloc (.cells #[.int .i64 5, .string ⟨#[]⟩, .bool false, .slice none 0 0, .int .i64 0, .int .i64 0, .bool false, .slice none 0 0] 25)) w2.heap.size [.int .i64 5, .string ⟨#[]⟩, .bool false, .slice none 0 0, .int .i64 0, .int .i64 0, .bool false, .slice none 0 0] from cl_alloc w2 [.int .i64 5, .string ⟨#[]⟩, .bool false, .slice none 0 0, .int .i64 0, .int .i64 0, .bool false, .slice none 0 0] _)
        have M3w := hide (M2w.out.bl (bl_alloc (bl_refl _) (.cells #[.int .i64 5, .string ⟨#[]⟩, .bool false, .slice none 0 0, .int .i64 0, .int .i64 0, .bool false, .slice none 0 0] 25)))
        have HXB := hide (show w2.heap.size ≠ b by have := HS.out.lt; have := M2w.out.1.grown.size; omega)
        have HWX := hide (show w.heap.size < w2.heap.size by have := M2.out.1.grown.size; simp at this; omega)
        have HZX := hide (show w.heap.size ≠ w2.heap.size by have := HWX.out; omega)
        go_wp2_with fail
        refine (HT5.out _ (M3w.out.pl HS.out)).mono ?_
        rintro e w4 ⟨rfl, hm4⟩
        have M4w := hide (M3w.out.trans hm4)
        have Z4 := hide (Z3.out.mv hm4.1 HNB.out)
        have X4 := hide (X3.out.mv hm4.1 HXB.out)
        clear hm4
        go_wp2_with fail
        refine (HPC.out _ (M4w.out.pl HS.out)).mono ?_
        rintro e w6 ⟨rfl, k6, hm6⟩
        have HMM := hide ((M4w.out.1.trans hm6).bl (bl_alloc (bl_refl w6) (.cells #[.int .i64 0, .string ⟨#[]⟩, .bool false, .slice none 0 0, .int .i64 0, .int .i64 0, .bool false, .slice none 0 0] 25)))
        rw [show rt0.v = .agg #[.int .i64 0, .string ⟨#[]⟩, .bool false, .slice none 0 0, .int .i64 0, .int .i64 0, .bool false, .slice none 0 0] from rfl]
        have Z6 := hide ((Z4.out.mv hm6 HNB.out).bl (bl_alloc (bl_refl w6) (.cells #[.int .i64 0, .string ⟨#[]⟩, .bool false, .slice none 0 0, .int .i64 0, .int .i64 0, .bool false, .slice none 0 0] 25)))
        clear hm6
        obtain ⟨z0, z1, z2, z3, z4, z5, z6, z7⟩ := (Z6.out).eight
        have hf1 := (Z6.out).f
        rcases hgp with rfl | rfl
        · go_wp2
          refine bodyPost_ret (v := .tuple #[.agg #[.int .i64 0, .string ⟨#[]⟩, .bool false, .slice none 0 0, .int .i64 0, .int .i64 0, .bool false, .slice none 0 0], .int .i64 8]) ?_ rfl ⟨rfl, _, (mvd8 (HMM.out) HNB.out (Nat.le_refl _) _ _ _ _ _ _ _ _ _ _ _ _ _ _ _ _)⟩
          rw [results_cell2 rfl]
          go_simp
        · go_wp2
          refine bodyPost_ret (v := .tuple #[.agg #[.int .i64 0, .string ⟨#[]⟩, .bool false, .slice none 0 0, .int .i64 0, .int .i64 0, .bool false, .slice none 0 0], .int .i64 10]) ?_ rfl ⟨rfl, _, (mvd8 (HMM.out) HNB.out (Nat.le_refl _) _ _ _ _ _ _ _ _ _ _ _ _ _ _ _ _)⟩
          rw [results_cell2 rfl]
          go_simp
      simp only [grpE] at ho
      obtain ⟨q7, hq7⟩ : ∃ q, (hdC r8 == [41]) = q := ⟨_, rfl⟩
      have HT7 := hide (fun W (hp : Rp W b A c zs r8) => rr_take hp ⟨#[41]⟩ (by decide) q7 hq7)
      rw [hq7] at ho
      clear hq7 hgp
      cases q7
      · rw [if_neg (by decide)] at ho
        subst ho
        go_enter Try.func64, Try.ntmps64
        go_wp2_with fail
        refine (HT0.out _ HP0.out).mono ?_
        rintro e u0 ⟨rfl, hm⟩
        have N0 : Hid (Rv (w.alloc (.cells #[.int .i64 0, .string ⟨#[]⟩, .bool false, .slice none 0 0, .int .i64 0, .int .i64 0, .bool false, .slice none 0 0] 25)) u0 b zs l) := hide hm
        clear hm
        go_wp2_with fail
        refine (HTT.out _ (N0.out.pl HP0.out)).mono ?_
        rintro e w2 ⟨rfl, hm⟩
        have M2 : Hid (Rv (w.alloc (.cells #[.int .i64 0, .string ⟨#[]⟩, .bool false, .slice none 0 0, .int .i64 0, .int .i64 0, .bool false, .slice none 0 0] 25)) w2 b zs r1) := hide (N0.out.trans hm)
        clear hm
        have Z2 := hide (Z0.out.mv M2.out.1 HNB.out)
        have M2w := hide (HSELF.out.trans M2.out)
        have Z3 := hide (Z2.out.bl (bl_alloc (bl_refl _) (.cells #[.int .i64 5, .string ⟨#[]⟩, .bool false, .slice none 0 0, .int .i64 0, .int .i64 0, .bool false, .slice none 0 0] 25)))
        have X3 := hide (show Cl (w2.alloc (.cells #[.int .i64 5, .string ⟨#[]⟩, .bool false, .slice none 0 0, .int .i64 0, .int .i64 0, .bool false, .slice none 0 0] 25)) w2.heap.size [.int .i64 5, .string ⟨#[]⟩, .bool false, .slice none 0 0, .int .i64 0, .int .i64 0, .bool false, .slice none 0 0] from cl_alloc w2 [.int .i64 5, .string ⟨#[]⟩, .bool false, .slice none 0 0, .int .i64 0, .int .i64 0, .bool false, .slice none 0 0] _)
        have M3w := hide (M2w.out.bl (bl_alloc (bl_refl _) (.cells #[.int .i64 5, .string ⟨#[]⟩, .bool false, .slice none 0 0, .int .i64 0, .int .i64 0, .bool false, .slice none 0 0] 25)))
        have HXB := hide (show w2.heap.size ≠ b by have := HS.out.lt; have := M2w.out.1.grown.size; omega)
        have HWX := hide (show w.heap.size < w2.heap.size by have := M2.out.1.grown.size; simp at this; omega)
        have HZX := hide (show w.heap.size ≠ w2.heap.size by have := HWX.out; omega)
        go_wp2_with fail
        refine (HT5.out _ (M3w.out.pl HS.out)).mono ?_
        rintro e w4 ⟨rfl, hm4⟩
        have M4w := hide (M3w.out.trans hm4)
        have Z4 := hide (Z3.out.mv hm4.1 HNB.out)
        have X4 := hide (X3.out.mv hm4.1 HXB.out)
        clear hm4
        have HBP := hide (show b < w4.heap.size from M4w.out.1.lt)
        go_wp2_with fail
        refine (HPC.out _ (M4w.out.pl HS.out)).mono ?_
        rintro e w6 ⟨t, rfl, hm6, hrx, hfr, her⟩
        subst her
        obtain ⟨tA, tc, htrv⟩ := rwat_len hrx.rows
        obtain ⟨tB, td, htkv⟩ := ksat_len hrx.ks
        have HTV := hide (show t.v = .agg #[.int .i64 t.k, .string t.ch, .bool t.nt, .slice tA t.rows.length tc, .int .i64 t.mi, .int .i64 t.ma, .bool t.lz, .slice tB t.kids.length td] by unfold Rt.v Rt.cs; rw [htrv, htkv])
        have HCS := hide (show t.cs = [.int .i64 t.k, .string t.ch, .bool t.nt, .slice tA t.rows.length tc, .int .i64 t.mi, .int .i64 t.ma, .bool t.lz, .slice tB t.kids.length td] by unfold Rt.cs; rw [htrv, htkv])
        rw [HTV.out]
        have HRX := hide hrx
        have HFR := hide hfr
        have HSZ6 := hide hm6.1.grown.size
        have M6 := hide ((M4w.out.trans hm6).bl (bl_alloc (bl_refl w6) (.cells #[.int .i64 t.k, .string t.ch, .bool t.nt, .slice tA t.rows.length tc, .int .i64 t.mi, .int .i64 t.ma, .bool t.lz, .slice tB t.kids.length td] 25)))
        have Z6 := hide ((Z4.out.mv hm6.1 HNB.out).bl (bl_alloc (bl_refl w6) (.cells #[.int .i64 t.k, .string t.ch, .bool t.nt, .slice tA t.rows.length tc, .int .i64 t.mi, .int .i64 t.ma, .bool t.lz, .slice tB t.kids.length td] 25)))
        have X6 := hide ((X4.out.mv hm6.1 HXB.out).bl (bl_alloc (bl_refl w6) (.cells #[.int .i64 t.k, .string t.ch, .bool t.nt, .slice tA t.rows.length tc, .int .i64 t.mi, .int .i64 t.ma, .bool t.lz, .slice tB t.kids.length td] 25)))
        have K6 := hide (show Cl (w6.alloc (.cells #[.int .i64 t.k, .string t.ch, .bool t.nt, .slice tA t.rows.length tc, .int .i64 t.mi, .int .i64 t.ma, .bool t.lz, .slice tB t.kids.length td] 25)) w6.heap.size [.int .i64 t.k, .string t.ch, .bool t.nt, .slice tA t.rows.length tc, .int .i64 t.mi, .int .i64 t.ma, .bool t.lz, .slice tB t.kids.length td] from cl_alloc w6 [.int .i64 t.k, .string t.ch, .bool t.nt, .slice tA t.rows.length tc, .int .i64 t.mi, .int .i64 t.ma, .bool t.lz, .slice tB t.kids.length td] _)
        have HB6 := hide (show b < w6.heap.size from (M4w.out.trans hm6).1.lt)
        have HX6 := hide (show w2.heap.size + 1 ≤ w6.heap.size from Nat.le_trans (show w2.heap.size + 1 ≤ w4.heap.size from X4.out.s) hm6.1.grown.size)
        have HX5 := hide (show w2.heap.size < w4.heap.size from X4.out.s)
        clear hm6 hrx hfr htrv htkv
        go_wp2_with fail
        refine (HT7.out _ (M6.out.pl HS.out)).mono ?_
        rintro e w8 ⟨rfl, hm8⟩
        have M8 := hide (M6.out.trans hm8)
        have Z8 := hide (Z6.out.mv hm8.1 HNB.out)
        have X8 := hide (X6.out.mv hm8.1 HXB.out)
        clear hm8
        obtain ⟨z0, z1, z2, z3, z4, z5, z6, z7⟩ := (Z8.out).eight
        have hf1 := (Z8.out).f
        go_wp2
        refine bodyPost_ret (v := .tuple #[.agg #[.int .i64 0, .string ⟨#[]⟩, .bool false, .slice none 0 0, .int .i64 0, .int .i64 0, .bool false, .slice none 0 0], .int .i64 10]) ?_ rfl ⟨rfl, _, (mvd8 (M8.out.1) HNB.out (Nat.le_refl _) _ _ _ _ _ _ _ _ _ _ _ _ _ _ _ _)⟩
        rw [results_cell2 rfl]
        go_simp
      · rw [if_pos rfl] at ho
        subst ho
        simp only [if_true] at HT7
        go_enter Try.func64, Try.ntmps64
        go_wp2_with fail
        refine (HT0.out _ HP0.out).mono ?_
        rintro e u0 ⟨rfl, hm⟩
        have N0 : Hid (Rv (w.alloc (.cells #[.int .i64 0, .string ⟨#[]⟩, .bool false, .slice none 0 0, .int .i64 0, .int .i64 0, .bool false, .slice none 0 0] 25)) u0 b zs l) := hide hm
        clear hm
        go_wp2_with fail
        refine (HTT.out _ (N0.out.pl HP0.out)).mono ?_
        rintro e w2 ⟨rfl, hm⟩
        have M2 : Hid (Rv (w.alloc (.cells #[.int .i64 0, .string ⟨#[]⟩, .bool false, .slice none 0 0, .int .i64 0, .int .i64 0, .bool false, .slice none 0 0] 25)) w2 b zs r1) := hide (N0.out.trans hm)
        clear hm
        have Z2 := hide (Z0.out.mv M2.out.1 HNB.out)
        have M2w := hide (HSELF.out.trans M2.out)
        have Z3 := hide (Z2.out.bl (bl_alloc (bl_refl _) (.cells #[.int .i64 5, .string ⟨#[]⟩, .bool false, .slice none 0 0, .int .i64 0, .int .i64 0, .bool false, .slice none 0 0] 25)))
        have X3 := hide (show Cl (w2.alloc (.cells #[.int .i64 5, .string ⟨#[]⟩, .bool false, .slice none 0 0, .int .i64 0, .int .i64 0, .bool false, .slice none 0 0] 25)) w2.heap.size [.int .i64 5, .string ⟨#[]⟩, .bool false, .slice none 0 0, .int .i64 0, .int .i64 0, .bool false, .slice none 0 0] from cl_alloc w2 [.int .i64 5, .string ⟨#[]⟩, .bool false, .slice none 0 0, .int .i64 0, .int .i64 0, .bool false, .slice none 0 0] _)
        have M3w := hide (M2w.out.bl (bl_alloc (bl_refl _) (.cells #[.int .i64 5, .string ⟨#[]⟩, .bool false, .slice none 0 0, .int .i64 0, .int .i64 0, .bool false, .slice none 0 0] 25)))
        have HXB := hide (show w2.heap.size ≠ b by have := HS.out.lt; have := M2w.out.1.grown.size; omega)
        have HWX := hide (show w.heap.size < w2.heap.size by have := M2.out.1.grown.size; simp at this; omega)
        have HZX := hide (show w.heap.size ≠ w2.heap.size by have := HWX.out; omega)
        go_wp2_with fail
        refine (HT5.out _ (M3w.out.pl HS.out)).mono ?_
        rintro e w4 ⟨rfl, hm4⟩
        have M4w := hide (M3w.out.trans hm4)
        have Z4 := hide (Z3.out.mv hm4.1 HNB.out)
        have X4 := hide (X3.out.mv hm4.1 HXB.out)
        clear hm4
        have HBP := hide (show b < w4.heap.size from M4w.out.1.lt)
        go_wp2_with fail
        refine (HPC.out _ (M4w.out.pl HS.out)).mono ?_
        rintro e w6 ⟨t, rfl, hm6, hrx, hfr, her⟩
        subst her
        obtain ⟨tA, tc, htrv⟩ := rwat_len hrx.rows
        obtain ⟨tB, td, htkv⟩ := ksat_len hrx.ks
        have HTV := hide (show t.v = .agg #[.int .i64 t.k, .string t.ch, .bool t.nt, .slice tA t.rows.length tc, .int .i64 t.mi, .int .i64 t.ma, .bool t.lz, .slice tB t.kids.length td] by unfold Rt.v Rt.cs; rw [htrv, htkv])
        have HCS := hide (show t.cs = [.int .i64 t.k, .string t.ch, .bool t.nt, .slice tA t.rows.length tc, .int .i64 t.mi, .int .i64 t.ma, .bool t.lz, .slice tB t.kids.length td] by unfold Rt.cs; rw [htrv, htkv])
        rw [HTV.out]
        have HRX := hide hrx
        have HFR := hide hfr
        have HSZ6 := hide hm6.1.grown.size
        have M6 := hide ((M4w.out.trans hm6).bl (bl_alloc (bl_refl w6) (.cells #[.int .i64 t.k, .string t.ch, .bool t.nt, .slice tA t.rows.length tc, .int .i64 t.mi, .int .i64 t.ma, .bool t.lz, .slice tB t.kids.length td] 25)))
        have Z6 := hide ((Z4.out.mv hm6.1 HNB.out).bl (bl_alloc (bl_refl w6) (.cells #[.int .i64 t.k, .string t.ch, .bool t.nt, .slice tA t.rows.length tc, .int .i64 t.mi, .int .i64 t.ma, .bool t.lz, .slice tB t.kids.length td] 25)))
        have X6 := hide ((X4.out.mv hm6.1 HXB.out).bl (bl_alloc (bl_refl w6) (.cells #[.int .i64 t.k, .string t.ch, .bool t.nt, .slice tA t.rows.length tc, .int .i64 t.mi, .int .i64 t.ma, .bool t.lz, .slice tB t.kids.length td] 25)))
        have K6 := hide (show Cl (w6.alloc (.cells #[.int .i64 t.k, .string t.ch, .bool t.nt, .slice tA t.rows.length tc, .int .i64 t.mi, .int .i64 t.ma, .bool t.lz, .slice tB t.kids.length td] 25)) w6.heap.size [.int .i64 t.k, .string t.ch, .bool t.nt, .slice tA t.rows.length tc, .int .i64 t.mi, .int .i64 t.ma, .bool t.lz, .slice tB t.kids.length td] from cl_alloc w6 [.int .i64 t.k, .string t.ch, .bool t.nt, .slice tA t.rows.length tc, .int .i64 t.mi, .int .i64 t.ma, .bool t.lz, .slice tB t.kids.length td] _)
        have HB6 := hide (show b < w6.heap.size from (M4w.out.trans hm6).1.lt)
        have HX6 := hide (show w2.heap.size + 1 ≤ w6.heap.size from Nat.le_trans (show w2.heap.size + 1 ≤ w4.heap.size from X4.out.s) hm6.1.grown.size)
        have HX5 := hide (show w2.heap.size < w4.heap.size from X4.out.s)
        clear hm6 hrx hfr htrv htkv
        go_wp2_with fail
        refine (HT7.out _ (M6.out.pl HS.out)).mono ?_
        rintro e w8 ⟨rfl, hm8⟩
        have M8 := hide (M6.out.trans hm8)
        have Z8 := hide (Z6.out.mv hm8.1 HNB.out)
        have X8 := hide (X6.out.mv hm8.1 HXB.out)
        have K8 := hide (K6.out.mv hm8.1 (by have := HB6.out; omega))
        have HKK := hide (show Kept w4.heap.size w6 w8 from kept_trans (kept_below (bl_alloc (bl_refl w6) _)) (fun p v hp hc => hm8.1.cell hc (by have := HBP.out; omega)))
        have HS8 := hide (show w6.heap.size + 1 ≤ w8.heap.size by have := hm8.1.grown.size; simpa using this)
        clear hm8
        obtain ⟨k0, k1, k2, k3, k4, k5, k6, k7⟩ := K8.out.eight
        obtain ⟨x0, x1, x2, x3, x4, x5, x6, x7⟩ := (X8.out).eight
        have hf2 := (X8.out).f
        obtain ⟨z0, z1, z2, z3, z4, z5, z6, z7⟩ := (Z8.out).eight
        have hf1 := (Z8.out).f
        have HMF := hide ((rv8 (M8.out.put (g := w2.heap.size) HXB.out (Nat.le_of_lt HWX.out) 7 (.slice (some ⟨w8.heap.size, 0, none⟩) 1 1)) HNB.out (Nat.le_refl _) 0 (.int .i64 5) 1 (.string ⟨#[]⟩) 2 (.bool false) 3 (.slice none 0 0) 4 (.int .i64 0) 5 (.int .i64 0) 6 (.bool false) 7 (.slice (some ⟨w8.heap.size, 0, none⟩) 1 1)).bl (bl_alloc (bl_refl _) (.cells #[.int .i64 t.k, .string t.ch, .bool t.nt, .slice tA t.rows.length tc, .int .i64 t.mi, .int .i64 t.ma, .bool t.lz, .slice tB t.kids.length td] 25)))
        have HEND := hide (rgrp_end (N := w4.heap.size) (k := 5) (g := w8.heap.size) HMF.out HRX.out (kept_trans HKK.out (kept_trans (kept_set _ HX5.out _) (kept_trans (kept8 _ (Nat.lt_trans HWX.out HX5.out) _ _ _ _ _ _ _ _ _ _ _ _ _ _ _ _) (kept_below (bl_alloc (bl_refl _) _))))) HFR.out (Nat.le_trans HSZ6.out (Nat.le_trans (Nat.le_succ _) HS8.out)) (Nat.le_of_lt (Nat.lt_trans HWX.out HX5.out))
          (fun j u hu => ks_alloc (T := 25) (cs := [.int .i64 t.k, .string t.ch, .bool t.nt, .slice tA t.rows.length tc, .int .i64 t.mi, .int .i64 t.ma, .bool t.lz, .slice tB t.kids.length td]) (by simp) j u (by rw [← HCS.out]; exact hu)))
        have hne1 := HZX.out
        have hne2 : w2.heap.size ≠ w.heap.size := fun e => hne1 e.symm
        have hx8 := X8.out.s
        have hx9 := Z8.out.s
        go_wp2
        refine bodyPost_ret (v := .tuple #[.agg #[.int .i64 5, .string ⟨#[]⟩, .bool false, .slice none 0 0, .int .i64 0, .int .i64 0, .bool false, .slice (some ⟨w8.heap.size, 0, none⟩) 1 1], .int .i64 0]) ?_ rfl HEND.out
        rw [results_cell2 rfl]
        go_simp
    rw [if_pos rfl] at ho
    obtain ⟨r2, hr2⟩ : ∃ r2, tlC r1 = r2 := ⟨_, rfl⟩
    simp only [if_true] at HT5
    rw [hr2] at ho HT5
    have hrl2 : r2.length ≤ 256 := by rw [← hr2]; have := tl_le r1; omega
    obtain ⟨q6, hq6⟩ : ∃ q, (hdC r2 == [58]) = q := ⟨_, rfl⟩
    have HT6 := hide (fun W (hp : Rp W b A c zs r2) => rr_take hp ⟨#[58]⟩ (by decide) q6 hq6)
    rw [hq6] at ho
    clear hr2 hq6
    cases q6
    · rw [if_neg (by decide)] at ho
      subst ho
      go_enter Try.func64, Try.ntmps64
      go_wp2_with fail
      refine (HT0.out _ HP0.out).mono ?_
      rintro e u0 ⟨rfl, hm⟩
      have N0 : Hid (Rv (w.alloc (.cells #[.int .i64 0, .string ⟨#[]⟩, .bool false, .slice none 0 0, .int .i64 0, .int .i64 0, .bool false, .slice none 0 0] 25)) u0 b zs l) := hide hm
      clear hm
      go_wp2_with fail
      refine (HTT.out _ (N0.out.pl HP0.out)).mono ?_
      rintro e w2 ⟨rfl, hm⟩
      have M2 : Hid (Rv (w.alloc (.cells #[.int .i64 0, .string ⟨#[]⟩, .bool false, .slice none 0 0, .int .i64 0, .int .i64 0, .bool false, .slice none 0 0] 25)) w2 b zs r1) := hide (N0.out.trans hm)
      clear hm
      have Z2 := hide (Z0.out.mv M2.out.1 HNB.out)
      have M2w := hide (HSELF.out.trans M2.out)
      have Z3 := hide (Z2.out.bl (bl_alloc (bl_refl _) (.cells #[.int .i64 5, .string ⟨#[]⟩, .bool false, .slice none 0 0, .int .i64 0, .int .i64 0, .bool false, .slice none 0 0] 25)))
      have X3 := hide (show Cl (w2.alloc (.cells #[.int .i64 5, .string ⟨#[]⟩, .bool false, .slice none 0 0, .int .i64 0, .int .i64 0, .bool false, .slice none 0 0] 25)) w2.heap.size [.int .i64 5, .string ⟨#[]⟩, .bool false, .slice none 0 0, .int .i64 0, .int .i64 0, .bool false, .slice none 0 0] from cl_alloc w2 [.int .i64 5, .string ⟨#[]⟩, .bool false, .slice none 0 0, .int .i64 0, .int .i64 0, .bool false, .slice none 0 0] _)
      have M3w := hide (M2w.out.bl (bl_alloc (bl_refl _) (.cells #[.int .i64 5, .string ⟨#[]⟩, .bool false, .slice none 0 0, .int .i64 0, .int .i64 0, .bool false, .slice none 0 0] 25)))
      have HXB := hide (show w2.heap.size ≠ b by have := HS.out.lt; have := M2w.out.1.grown.size; omega)
      have HWX := hide (show w.heap.size < w2.heap.size by have := M2.out.1.grown.size; simp at this; omega)
      have HZX := hide (show w.heap.size ≠ w2.heap.size by have := HWX.out; omega)
      go_wp2_with fail
      refine (HT5.out _ (M3w.out.pl HS.out)).mono ?_
      rintro e w4 ⟨rfl, hm4⟩
      have M4w := hide (M3w.out.trans hm4)
      have Z4 := hide (Z3.out.mv hm4.1 HNB.out)
      have X4 := hide (X3.out.mv hm4.1 HXB.out)
      clear hm4
      go_wp2_with fail
      refine (HT6.out _ (M4w.out.pl HS.out)).mono ?_
      rintro e w5 ⟨rfl, hm5⟩
      have M5w := hide (M4w.out.trans hm5)
      have Z5 := hide (Z4.out.mv hm5.1 HNB.out)
      have X5 := hide (X4.out.mv hm5.1 HXB.out)
      clear hm5
      obtain ⟨z0, z1, z2, z3, z4, z5, z6, z7⟩ := (Z5.out).eight
      have hf1 := (Z5.out).f
      go_wp2
      refine bodyPost_ret (v := .tuple #[.agg #[.int .i64 0, .string ⟨#[]⟩, .bool false, .slice none 0 0, .int .i64 0, .int .i64 0, .bool false, .slice none 0 0], .int .i64 10]) ?_ rfl ⟨rfl, _, (mvd8 (M5w.out.1) HNB.out (Nat.le_refl _) _ _ _ _ _ _ _ _ _ _ _ _ _ _ _ _)⟩
      rw [results_cell2 rfl]
      go_simp
    rw [if_pos rfl] at ho
    obtain ⟨r3, hr3⟩ : ∃ r3, tlC r2 = r3 := ⟨_, rfl⟩
    simp only [if_true] at HT6
    rw [hr3] at ho HT6
    have hrl3 : r3.length ≤ 256 := by rw [← hr3]; have := tl_le r2; omega
    clear hr3
    have hgp := HGD.out r3
    have HPC := hide (HPT.out · r3 hrl3)
    obtain ⟨p, hp⟩ : ∃ p, pat r3 = p := ⟨_, rfl⟩
    rw [hp] at hgp HPC ho
    clear hp
    rcases p with _ | n | ⟨xx, r8⟩
    · exact hgp.elim
    · simp only [grpE] at ho
      subst ho
      go_enter Try.func64, Try.ntmps64
      go_wp2_with fail
      refine (HT0.out _ HP0.out).mono ?_
      rintro e u0 ⟨rfl, hm⟩
      have N0 : Hid (Rv (w.alloc (.cells #[.int .i64 0, .string ⟨#[]⟩, .bool false, .slice none 0 0, .int .i64 0, .int .i64 0, .bool false, .slice none 0 0] 25)) u0 b zs l) := hide hm
      clear hm
      go_wp2_with fail
      refine (HTT.out _ (N0.out.pl HP0.out)).mono ?_
      rintro e w2 ⟨rfl, hm⟩
      have M2 : Hid (Rv (w.alloc (.cells #[.int .i64 0, .string ⟨#[]⟩, .bool false, .slice none 0 0, .int .i64 0, .int .i64 0, .bool false, .slice none 0 0] 25)) w2 b zs r1) := hide (N0.out.trans hm)
      clear hm
      have Z2 := hide (Z0.out.mv M2.out.1 HNB.out)
      have M2w := hide (HSELF.out.trans M2.out)
      have Z3 := hide (Z2.out.bl (bl_alloc (bl_refl _) (.cells #[.int .i64 5, .string ⟨#[]⟩, .bool false, .slice none 0 0, .int .i64 0, .int .i64 0, .bool false, .slice none 0 0] 25)))
      have X3 := hide (show Cl (w2.alloc (.cells #[.int .i64 5, .string ⟨#[]⟩, .bool false, .slice none 0 0, .int .i64 0, .int .i64 0, .bool false, .slice none 0 0] 25)) w2.heap.size [.int .i64 5, .string ⟨#[]⟩, .bool false, .slice none 0 0, .int .i64 0, .int .i64 0, .bool false, .slice none 0 0] from cl_alloc w2 [.int .i64 5, .string ⟨#[]⟩, .bool false, .slice none 0 0, .int .i64 0, .int .i64 0, .bool false, .slice none 0 0] _)
      have M3w := hide (M2w.out.bl (bl_alloc (bl_refl _) (.cells #[.int .i64 5, .string ⟨#[]⟩, .bool false, .slice none 0 0, .int .i64 0, .int .i64 0, .bool false, .slice none 0 0] 25)))
      have HXB := hide (show w2.heap.size ≠ b by have := HS.out.lt; have := M2w.out.1.grown.size; omega)
      have HWX := hide (show w.heap.size < w2.heap.size by have := M2.out.1.grown.size; simp at this; omega)
      have HZX := hide (show w.heap.size ≠ w2.heap.size by have := HWX.out; omega)
      go_wp2_with fail
      refine (HT5.out _ (M3w.out.pl HS.out)).mono ?_
      rintro e w4 ⟨rfl, hm4⟩
      have M4w := hide (M3w.out.trans hm4)
      have Z4 := hide (Z3.out.mv hm4.1 HNB.out)
      have X4 := hide (X3.out.mv hm4.1 HXB.out)
      clear hm4
      go_wp2_with fail
      refine (HT6.out _ (M4w.out.pl HS.out)).mono ?_
      rintro e w5 ⟨rfl, hm5⟩
      have M5w := hide (M4w.out.trans hm5)
      have Z5 := hide (Z4.out.mv hm5.1 HNB.out)
      have X5 := hide (X4.out.mv hm5.1 HXB.out)
      clear hm5
      have M5v := hide (M5w.out.put HXB.out (Nat.le_of_lt HWX.out) 0 (.int .i64 6))
      have Z5v := hide (Z5.out.off (g' := w2.heap.size) (fun e => HZX.out e.symm) 0 (.int .i64 6))
      have X5v : Hid (Cl (w5.setCell ⟨w2.heap.size, 0, none⟩ (.int .i64 6)) w2.heap.size [.int .i64 6, .string ⟨#[]⟩, .bool false, .slice none 0 0, .int .i64 0, .int .i64 0, .bool false, .slice none 0 0]) := hide (X5.out.put 0 (.int .i64 6))
      obtain ⟨x0, x1, x2, x3, x4, x5, x6, x7⟩ := (X5.out).eight
      have hf2 := (X5.out).f
      go_wp2_with fail
      refine (HPC.out _ (M5v.out.pl HS.out)).mono ?_
      rintro e w6 ⟨rfl, k6, hm6⟩
      have HMM := hide ((M5v.out.1.trans hm6).bl (bl_alloc (bl_refl w6) (.cells #[.int .i64 0, .string ⟨#[]⟩, .bool false, .slice none 0 0, .int .i64 0, .int .i64 0, .bool false, .slice none 0 0] 25)))
      rw [show rt0.v = .agg #[.int .i64 0, .string ⟨#[]⟩, .bool false, .slice none 0 0, .int .i64 0, .int .i64 0, .bool false, .slice none 0 0] from rfl]
      have Z6 := hide ((Z5v.out.mv hm6 HNB.out).bl (bl_alloc (bl_refl w6) (.cells #[.int .i64 0, .string ⟨#[]⟩, .bool false, .slice none 0 0, .int .i64 0, .int .i64 0, .bool false, .slice none 0 0] 25)))
      clear hm6
      obtain ⟨z0, z1, z2, z3, z4, z5, z6, z7⟩ := (Z6.out).eight
      have hf1 := (Z6.out).f
      rcases hgp with rfl | rfl
      · go_wp2
        refine bodyPost_ret (v := .tuple #[.agg #[.int .i64 0, .string ⟨#[]⟩, .bool false, .slice none 0 0, .int .i64 0, .int .i64 0, .bool false, .slice none 0 0], .int .i64 8]) ?_ rfl ⟨rfl, _, (mvd8 (HMM.out) HNB.out (Nat.le_refl _) _ _ _ _ _ _ _ _ _ _ _ _ _ _ _ _)⟩
        rw [results_cell2 rfl]
        go_simp
      · go_wp2
        refine bodyPost_ret (v := .tuple #[.agg #[.int .i64 0, .string ⟨#[]⟩, .bool false, .slice none 0 0, .int .i64 0, .int .i64 0, .bool false, .slice none 0 0], .int .i64 10]) ?_ rfl ⟨rfl, _, (mvd8 (HMM.out) HNB.out (Nat.le_refl _) _ _ _ _ _ _ _ _ _ _ _ _ _ _ _ _)⟩
        rw [results_cell2 rfl]
        go_simp
    simp only [grpE] at ho
    obtain ⟨q7, hq7⟩ : ∃ q, (hdC r8 == [41]) = q := ⟨_, rfl⟩
    have HT7 := hide (fun W (hp : Rp W b A c zs r8) => rr_take hp ⟨#[41]⟩ (by decide) q7 hq7)
    rw [hq7] at ho
    clear hq7 hgp
    cases q7
    · rw [if_neg (by decide)] at ho
      subst ho
      go_enter Try.func64, Try.ntmps64
      go_wp2_with fail
      refine (HT0.out _ HP0.out).mono ?_
      rintro e u0 ⟨rfl, hm⟩
      have N0 : Hid (Rv (w.alloc (.cells #[.int .i64 0, .string ⟨#[]⟩, .bool false, .slice none 0 0, .int .i64 0, .int .i64 0, .bool false, .slice none 0 0] 25)) u0 b zs l) := hide hm
      clear hm
      go_wp2_with fail
      refine (HTT.out _ (N0.out.pl HP0.out)).mono ?_
      rintro e w2 ⟨rfl, hm⟩
      have M2 : Hid (Rv (w.alloc (.cells #[.int .i64 0, .string ⟨#[]⟩, .bool false, .slice none 0 0, .int .i64 0, .int .i64 0, .bool false, .slice none 0 0] 25)) w2 b zs r1) := hide (N0.out.trans hm)
      clear hm
      have Z2 := hide (Z0.out.mv M2.out.1 HNB.out)
      have M2w := hide (HSELF.out.trans M2.out)
      have Z3 := hide (Z2.out.bl (bl_alloc (bl_refl _) (.cells #[.int .i64 5, .string ⟨#[]⟩, .bool false, .slice none 0 0, .int .i64 0, .int .i64 0, .bool false, .slice none 0 0] 25)))
      have X3 := hide (show Cl (w2.alloc (.cells #[.int .i64 5, .string ⟨#[]⟩, .bool false, .slice none 0 0, .int .i64 0, .int .i64 0, .bool false, .slice none 0 0] 25)) w2.heap.size [.int .i64 5, .string ⟨#[]⟩, .bool false, .slice none 0 0, .int .i64 0, .int .i64 0, .bool false, .slice none 0 0] from cl_alloc w2 [.int .i64 5, .string ⟨#[]⟩, .bool false, .slice none 0 0, .int .i64 0, .int .i64 0, .bool false, .slice none 0 0] _)
      have M3w := hide (M2w.out.bl (bl_alloc (bl_refl _) (.cells #[.int .i64 5, .string ⟨#[]⟩, .bool false, .slice none 0 0, .int .i64 0, .int .i64 0, .bool false, .slice none 0 0] 25)))
      have HXB := hide (show w2.heap.size ≠ b by have := HS.out.lt; have := M2w.out.1.grown.size; omega)
      have HWX := hide (show w.heap.size < w2.heap.size by have := M2.out.1.grown.size; simp at this; omega)
      have HZX := hide (show w.heap.size ≠ w2.heap.size by have := HWX.out; omega)
      go_wp2_with fail
      refine (HT5.out _ (M3w.out.pl HS.out)).mono ?_
      rintro e w4 ⟨rfl, hm4⟩
      have M4w := hide (M3w.out.trans hm4)
      have Z4 := hide (Z3.out.mv hm4.1 HNB.out)
      have X4 := hide (X3.out.mv hm4.1 HXB.out)
      clear hm4
      go_wp2_with fail
      refine (HT6.out _ (M4w.out.pl HS.out)).mono ?_
      rintro e w5 ⟨rfl, hm5⟩
      have M5w := hide (M4w.out.trans hm5)
      have Z5 := hide (Z4.out.mv hm5.1 HNB.out)
      have X5 := hide (X4.out.mv hm5.1 HXB.out)
      clear hm5
      have M5v := hide (M5w.out.put HXB.out (Nat.le_of_lt HWX.out) 0 (.int .i64 6))
      have Z5v := hide (Z5.out.off (g' := w2.heap.size) (fun e => HZX.out e.symm) 0 (.int .i64 6))
      have X5v : Hid (Cl (w5.setCell ⟨w2.heap.size, 0, none⟩ (.int .i64 6)) w2.heap.size [.int .i64 6, .string ⟨#[]⟩, .bool false, .slice none 0 0, .int .i64 0, .int .i64 0, .bool false, .slice none 0 0]) := hide (X5.out.put 0 (.int .i64 6))
      obtain ⟨x0, x1, x2, x3, x4, x5, x6, x7⟩ := (X5.out).eight
      have hf2 := (X5.out).f
      have HBP := hide (show b < (w5.setCell ⟨w2.heap.size, 0, none⟩ (.int .i64 6)).heap.size from M5v.out.1.lt)
      go_wp2_with fail
      refine (HPC.out _ (M5v.out.pl HS.out)).mono ?_
      rintro e w6 ⟨t, rfl, hm6, hrx, hfr, her⟩
      subst her
      obtain ⟨tA, tc, htrv⟩ := rwat_len hrx.rows
      obtain ⟨tB, td, htkv⟩ := ksat_len hrx.ks
      have HTV := hide (show t.v = .agg #[.int .i64 t.k, .string t.ch, .bool t.nt, .slice tA t.rows.length tc, .int .i64 t.mi, .int .i64 t.ma, .bool t.lz, .slice tB t.kids.length td] by unfold Rt.v Rt.cs; rw [htrv, htkv])
      have HCS := hide (show t.cs = [.int .i64 t.k, .string t.ch, .bool t.nt, .slice tA t.rows.length tc, .int .i64 t.mi, .int .i64 t.ma, .bool t.lz, .slice tB t.kids.length td] by unfold Rt.cs; rw [htrv, htkv])
      rw [HTV.out]
      have HRX := hide hrx
      have HFR := hide hfr
      have HSZ6 := hide hm6.1.grown.size
      have M6 := hide ((M5v.out.trans hm6).bl (bl_alloc (bl_refl w6) (.cells #[.int .i64 t.k, .string t.ch, .bool t.nt, .slice tA t.rows.length tc, .int .i64 t.mi, .int .i64 t.ma, .bool t.lz, .slice tB t.kids.length td] 25)))
      have Z6 := hide ((Z5v.out.mv hm6.1 HNB.out).bl (bl_alloc (bl_refl w6) (.cells #[.int .i64 t.k, .string t.ch, .bool t.nt, .slice tA t.rows.length tc, .int .i64 t.mi, .int .i64 t.ma, .bool t.lz, .slice tB t.kids.length td] 25)))
      have X6 := hide ((X5v.out.mv hm6.1 HXB.out).bl (bl_alloc (bl_refl w6) (.cells #[.int .i64 t.k, .string t.ch, .bool t.nt, .slice tA t.rows.length tc, .int .i64 t.mi, .int .i64 t.ma, .bool t.lz, .slice tB t.kids.length td] 25)))
      have K6 := hide (show Cl (w6.alloc (.cells #[.int .i64 t.k, .string t.ch, .bool t.nt, .slice tA t.rows.length tc, .int .i64 t.mi, .int .i64 t.ma, .bool t.lz, .slice tB t.kids.length td] 25)) w6.heap.size [.int .i64 t.k, .string t.ch, .bool t.nt, .slice tA t.rows.length tc, .int .i64 t.mi, .int .i64 t.ma, .bool t.lz, .slice tB t.kids.length td] from cl_alloc w6 [.int .i64 t.k, .string t.ch, .bool t.nt, .slice tA t.rows.length tc, .int .i64 t.mi, .int .i64 t.ma, .bool t.lz, .slice tB t.kids.length td] _)
      have HB6 := hide (show b < w6.heap.size from (M5v.out.trans hm6).1.lt)
      have HX6 := hide (show w2.heap.size + 1 ≤ w6.heap.size from Nat.le_trans (show w2.heap.size + 1 ≤ (w5.setCell ⟨w2.heap.size, 0, none⟩ (.int .i64 6)).heap.size from X5v.out.s) hm6.1.grown.size)
      have HX5 := hide (show w2.heap.size < (w5.setCell ⟨w2.heap.size, 0, none⟩ (.int .i64 6)).heap.size from X5v.out.s)
      clear hm6 hrx hfr htrv htkv
      go_wp2_with fail
      refine (HT7.out _ (M6.out.pl HS.out)).mono ?_
      rintro e w8 ⟨rfl, hm8⟩
      have M8 := hide (M6.out.trans hm8)
      have Z8 := hide (Z6.out.mv hm8.1 HNB.out)
      have X8 := hide (X6.out.mv hm8.1 HXB.out)
      clear hm8
      obtain ⟨z0, z1, z2, z3, z4, z5, z6, z7⟩ := (Z8.out).eight
      have hf1 := (Z8.out).f
      go_wp2
      refine bodyPost_ret (v := .tuple #[.agg #[.int .i64 0, .string ⟨#[]⟩, .bool false, .slice none 0 0, .int .i64 0, .int .i64 0, .bool false, .slice none 0 0], .int .i64 10]) ?_ rfl ⟨rfl, _, (mvd8 (M8.out.1) HNB.out (Nat.le_refl _) _ _ _ _ _ _ _ _ _ _ _ _ _ _ _ _)⟩
      rw [results_cell2 rfl]
      go_simp
    · rw [if_pos rfl] at ho
      subst ho
      simp only [if_true] at HT7
      go_enter Try.func64, Try.ntmps64
      go_wp2_with fail
      refine (HT0.out _ HP0.out).mono ?_
      rintro e u0 ⟨rfl, hm⟩
      have N0 : Hid (Rv (w.alloc (.cells #[.int .i64 0, .string ⟨#[]⟩, .bool false, .slice none 0 0, .int .i64 0, .int .i64 0, .bool false, .slice none 0 0] 25)) u0 b zs l) := hide hm
      clear hm
      go_wp2_with fail
      refine (HTT.out _ (N0.out.pl HP0.out)).mono ?_
      rintro e w2 ⟨rfl, hm⟩
      have M2 : Hid (Rv (w.alloc (.cells #[.int .i64 0, .string ⟨#[]⟩, .bool false, .slice none 0 0, .int .i64 0, .int .i64 0, .bool false, .slice none 0 0] 25)) w2 b zs r1) := hide (N0.out.trans hm)
      clear hm
      have Z2 := hide (Z0.out.mv M2.out.1 HNB.out)
      have M2w := hide (HSELF.out.trans M2.out)
      have Z3 := hide (Z2.out.bl (bl_alloc (bl_refl _) (.cells #[.int .i64 5, .string ⟨#[]⟩, .bool false, .slice none 0 0, .int .i64 0, .int .i64 0, .bool false, .slice none 0 0] 25)))
      have X3 := hide (show Cl (w2.alloc (.cells #[.int .i64 5, .string ⟨#[]⟩, .bool false, .slice none 0 0, .int .i64 0, .int .i64 0, .bool false, .slice none 0 0] 25)) w2.heap.size [.int .i64 5, .string ⟨#[]⟩, .bool false, .slice none 0 0, .int .i64 0, .int .i64 0, .bool false, .slice none 0 0] from cl_alloc w2 [.int .i64 5, .string ⟨#[]⟩, .bool false, .slice none 0 0, .int .i64 0, .int .i64 0, .bool false, .slice none 0 0] _)
      have M3w := hide (M2w.out.bl (bl_alloc (bl_refl _) (.cells #[.int .i64 5, .string ⟨#[]⟩, .bool false, .slice none 0 0, .int .i64 0, .int .i64 0, .bool false, .slice none 0 0] 25)))
      have HXB := hide (show w2.heap.size ≠ b by have := HS.out.lt; have := M2w.out.1.grown.size; omega)
      have HWX := hide (show w.heap.size < w2.heap.size by have := M2.out.1.grown.size; simp at this; omega)
      have HZX := hide (show w.heap.size ≠ w2.heap.size by have := HWX.out; omega)
      go_wp2_with fail
      refine (HT5.out _ (M3w.out.pl HS.out)).mono ?_
      rintro e w4 ⟨rfl, hm4⟩
      have M4w := hide (M3w.out.trans hm4)
      have Z4 := hide (Z3.out.mv hm4.1 HNB.out)
      have X4 := hide (X3.out.mv hm4.1 HXB.out)
      clear hm4
      go_wp2_with fail
      refine (HT6.out _ (M4w.out.pl HS.out)).mono ?_
      rintro e w5 ⟨rfl, hm5⟩
      have M5w := hide (M4w.out.trans hm5)
      have Z5 := hide (Z4.out.mv hm5.1 HNB.out)
      have X5 := hide (X4.out.mv hm5.1 HXB.out)
      clear hm5
      have M5v := hide (M5w.out.put HXB.out (Nat.le_of_lt HWX.out) 0 (.int .i64 6))
      have Z5v := hide (Z5.out.off (g' := w2.heap.size) (fun e => HZX.out e.symm) 0 (.int .i64 6))
      have X5v : Hid (Cl (w5.setCell ⟨w2.heap.size, 0, none⟩ (.int .i64 6)) w2.heap.size [.int .i64 6, .string ⟨#[]⟩, .bool false, .slice none 0 0, .int .i64 0, .int .i64 0, .bool false, .slice none 0 0]) := hide (X5.out.put 0 (.int .i64 6))
      obtain ⟨x0, x1, x2, x3, x4, x5, x6, x7⟩ := (X5.out).eight
      have hf2 := (X5.out).f
      have HBP := hide (show b < (w5.setCell ⟨w2.heap.size, 0, none⟩ (.int .i64 6)).heap.size from M5v.out.1.lt)
      go_wp2_with fail
      refine (HPC.out _ (M5v.out.pl HS.out)).mono ?_
      rintro e w6 ⟨t, rfl, hm6, hrx, hfr, her⟩
      subst her
      obtain ⟨tA, tc, htrv⟩ := rwat_len hrx.rows
      obtain ⟨tB, td, htkv⟩ := ksat_len hrx.ks
      have HTV := hide (show t.v = .agg #[.int .i64 t.k, .string t.ch, .bool t.nt, .slice tA t.rows.length tc, .int .i64 t.mi, .int .i64 t.ma, .bool t.lz, .slice tB t.kids.length td] by unfold Rt.v Rt.cs; rw [htrv, htkv])
      have HCS := hide (show t.cs = [.int .i64 t.k, .string t.ch, .bool t.nt, .slice tA t.rows.length tc, .int .i64 t.mi, .int .i64 t.ma, .bool t.lz, .slice tB t.kids.length td] by unfold Rt.cs; rw [htrv, htkv])
      rw [HTV.out]
      have HRX := hide hrx
      have HFR := hide hfr
      have HSZ6 := hide hm6.1.grown.size
      have M6 := hide ((M5v.out.trans hm6).bl (bl_alloc (bl_refl w6) (.cells #[.int .i64 t.k, .string t.ch, .bool t.nt, .slice tA t.rows.length tc, .int .i64 t.mi, .int .i64 t.ma, .bool t.lz, .slice tB t.kids.length td] 25)))
      have Z6 := hide ((Z5v.out.mv hm6.1 HNB.out).bl (bl_alloc (bl_refl w6) (.cells #[.int .i64 t.k, .string t.ch, .bool t.nt, .slice tA t.rows.length tc, .int .i64 t.mi, .int .i64 t.ma, .bool t.lz, .slice tB t.kids.length td] 25)))
      have X6 := hide ((X5v.out.mv hm6.1 HXB.out).bl (bl_alloc (bl_refl w6) (.cells #[.int .i64 t.k, .string t.ch, .bool t.nt, .slice tA t.rows.length tc, .int .i64 t.mi, .int .i64 t.ma, .bool t.lz, .slice tB t.kids.length td] 25)))
      have K6 := hide (show Cl (w6.alloc (.cells #[.int .i64 t.k, .string t.ch, .bool t.nt, .slice tA t.rows.length tc, .int .i64 t.mi, .int .i64 t.ma, .bool t.lz, .slice tB t.kids.length td] 25)) w6.heap.size [.int .i64 t.k, .string t.ch, .bool t.nt, .slice tA t.rows.length tc, .int .i64 t.mi, .int .i64 t.ma, .bool t.lz, .slice tB t.kids.length td] from cl_alloc w6 [.int .i64 t.k, .string t.ch, .bool t.nt, .slice tA t.rows.length tc, .int .i64 t.mi, .int .i64 t.ma, .bool t.lz, .slice tB t.kids.length td] _)
      have HB6 := hide (show b < w6.heap.size from (M5v.out.trans hm6).1.lt)
      have HX6 := hide (show w2.heap.size + 1 ≤ w6.heap.size from Nat.le_trans (show w2.heap.size + 1 ≤ (w5.setCell ⟨w2.heap.size, 0, none⟩ (.int .i64 6)).heap.size from X5v.out.s) hm6.1.grown.size)
      have HX5 := hide (show w2.heap.size < (w5.setCell ⟨w2.heap.size, 0, none⟩ (.int .i64 6)).heap.size from X5v.out.s)
      clear hm6 hrx hfr htrv htkv
      go_wp2_with fail
      refine (HT7.out _ (M6.out.pl HS.out)).mono ?_
      rintro e w8 ⟨rfl, hm8⟩
      have M8 := hide (M6.out.trans hm8)
      have Z8 := hide (Z6.out.mv hm8.1 HNB.out)
      have X8 := hide (X6.out.mv hm8.1 HXB.out)
      have K8 := hide (K6.out.mv hm8.1 (by have := HB6.out; omega))
      have HKK := hide (show Kept (w5.setCell ⟨w2.heap.size, 0, none⟩ (.int .i64 6)).heap.size w6 w8 from kept_trans (kept_below (bl_alloc (bl_refl w6) _)) (fun p v hp hc => hm8.1.cell hc (by have := HBP.out; omega)))
      have HS8 := hide (show w6.heap.size + 1 ≤ w8.heap.size by have := hm8.1.grown.size; simpa using this)
      clear hm8
      obtain ⟨k0, k1, k2, k3, k4, k5, k6, k7⟩ := K8.out.eight
      obtain ⟨x0, x1, x2, x3, x4, x5, x6, x7⟩ := (X8.out).eight
      have hf2 := (X8.out).f
      obtain ⟨z0, z1, z2, z3, z4, z5, z6, z7⟩ := (Z8.out).eight
      have hf1 := (Z8.out).f
      have HMF := hide ((rv8 (M8.out.put (g := w2.heap.size) HXB.out (Nat.le_of_lt HWX.out) 7 (.slice (some ⟨w8.heap.size, 0, none⟩) 1 1)) HNB.out (Nat.le_refl _) 0 (.int .i64 6) 1 (.string ⟨#[]⟩) 2 (.bool false) 3 (.slice none 0 0) 4 (.int .i64 0) 5 (.int .i64 0) 6 (.bool false) 7 (.slice (some ⟨w8.heap.size, 0, none⟩) 1 1)).bl (bl_alloc (bl_refl _) (.cells #[.int .i64 t.k, .string t.ch, .bool t.nt, .slice tA t.rows.length tc, .int .i64 t.mi, .int .i64 t.ma, .bool t.lz, .slice tB t.kids.length td] 25)))
      have HEND := hide (rgrp_end (N := (w5.setCell ⟨w2.heap.size, 0, none⟩ (.int .i64 6)).heap.size) (k := 6) (g := w8.heap.size) HMF.out HRX.out (kept_trans HKK.out (kept_trans (kept_set _ HX5.out _) (kept_trans (kept8 _ (Nat.lt_trans HWX.out HX5.out) _ _ _ _ _ _ _ _ _ _ _ _ _ _ _ _) (kept_below (bl_alloc (bl_refl _) _))))) HFR.out (Nat.le_trans HSZ6.out (Nat.le_trans (Nat.le_succ _) HS8.out)) (Nat.le_of_lt (Nat.lt_trans HWX.out HX5.out))
        (fun j u hu => ks_alloc (T := 25) (cs := [.int .i64 t.k, .string t.ch, .bool t.nt, .slice tA t.rows.length tc, .int .i64 t.mi, .int .i64 t.ma, .bool t.lz, .slice tB t.kids.length td]) (by simp) j u (by rw [← HCS.out]; exact hu)))
      have hne1 := HZX.out
      have hne2 : w2.heap.size ≠ w.heap.size := fun e => hne1 e.symm
      have hx8 := X8.out.s
      have hx9 := Z8.out.s
      go_wp2
      refine bodyPost_ret (v := .tuple #[.agg #[.int .i64 6, .string ⟨#[]⟩, .bool false, .slice none 0 0, .int .i64 0, .int .i64 0, .bool false, .slice (some ⟨w8.heap.size, 0, none⟩) 1 1], .int .i64 0]) ?_ rfl HEND.out
      rw [results_cell2 rfl]
      go_simp
  rw [hq1, if_neg (by decide)] at ho
  have HT1 := hide (fun W (hp : Rp W b A c zs l) => rr_take hp ⟨#[40]⟩ (by decide) false hq1)
  clear hq1
  rcases hq2 : (hdC l == [91]) with _ | _
  rotate_left
  · rw [hq2, if_pos rfl, hr1] at ho
    have HC := hide (fun W (hp : Rp W b A c zs r1) => rclass_any hp hrl res ho)
    have HTT : Hid (∀ W, Rp W b A c zs l → Calls Try.prog 58 #[.pointer (some ⟨b, 0, none⟩), .string ⟨#[91]⟩] W fun e w' => e = .returned (.bool true) ∧ Rv W w' b zs r1) := hide (fun W hp => by rw [← hr1]; exact rr_take hp ⟨#[91]⟩ (by decide) true hq2)
    clear hr1 hq2 ho
    clear h98 hprh hHD hne hl0
    go_enter Try.func64, Try.ntmps64
    go_wp2_with fail
    refine (HT0.out _ HP0.out).mono ?_
    rintro e u0 ⟨rfl, hm⟩
    have N0 : Hid (Rv (w.alloc (.cells #[.int .i64 0, .string ⟨#[]⟩, .bool false, .slice none 0 0, .int .i64 0, .int .i64 0, .bool false, .slice none 0 0] 25)) u0 b zs l) := hide hm
    clear hm
    go_wp2_with fail
    refine (HT1.out _ (N0.out.pl HP0.out)).mono ?_
    rintro e u1 ⟨rfl, hm⟩
    have N1 : Hid (Rv (w.alloc (.cells #[.int .i64 0, .string ⟨#[]⟩, .bool false, .slice none 0 0, .int .i64 0, .int .i64 0, .bool false, .slice none 0 0] 25)) u1 b zs l) := hide (N0.out.trans hm)
    clear hm
    go_wp2_with fail
    refine (HTT.out _ (N1.out.pl HP0.out)).mono ?_
    rintro e w2 ⟨rfl, hm⟩
    have M2 : Hid (Rv (w.alloc (.cells #[.int .i64 0, .string ⟨#[]⟩, .bool false, .slice none 0 0, .int .i64 0, .int .i64 0, .bool false, .slice none 0 0] 25)) w2 b zs r1) := hide (N1.out.trans hm)
    clear hm
    have Z2 := hide (Z0.out.mv M2.out.1 HNB.out)
    have M2w := hide (HSELF.out.trans M2.out)
    go_wp2_with fail
    refine (HC.out _ (M2.out.pl HP0.out)).mono ?_
    intro e w3 hp
    rcases res with _ | n | ⟨x, r2⟩
    · exact hp.elim
    · obtain ⟨rfl, k3, hm3⟩ := hp
      have HMM := hide (M2w.out.1.trans hm3)
      obtain ⟨z0, z1, z2, z3, z4, z5, z6, z7⟩ := (Z2.out.mv hm3 HNB.out).eight
      have hf1 := (Z2.out.mv hm3 HNB.out).f
      rw [show rt0.v = .agg #[.int .i64 0, .string ⟨#[]⟩, .bool false, .slice none 0 0, .int .i64 0, .int .i64 0, .bool false, .slice none 0 0] from rfl]
      clear hm3
      go_wp2
      refine bodyPost_ret (v := .tuple #[.agg #[.int .i64 0, .string ⟨#[]⟩, .bool false, .slice none 0 0, .int .i64 0, .int .i64 0, .bool false, .slice none 0 0], .int .i64 n]) ?_ rfl ⟨rfl, _, (mvd8 (HMM.out) HNB.out (Nat.le_refl _) _ _ _ _ _ _ _ _ _ _ _ _ _ _ _ _)⟩
      rw [results_cell2 rfl]
      go_simp
    · obtain ⟨t, rfl, hm3, hrx, hfr, her⟩ := hp
      subst her
      have HMM := hide (M2w.out.trans hm3)
      obtain ⟨z0, z1, z2, z3, z4, z5, z6, z7⟩ := (Z2.out.mv hm3.1 HNB.out).eight
      have hf1 := (Z2.out.mv hm3.1 HNB.out).f
      obtain ⟨tA, tc, htrv⟩ := rwat_len hrx.rows
      obtain ⟨tB, td, htkv⟩ := ksat_len hrx.ks
      have HTV := hide (show t.v = .agg #[.int .i64 t.k, .string t.ch, .bool t.nt, .slice tA t.rows.length tc, .int .i64 t.mi, .int .i64 t.ma, .bool t.lz, .slice tB t.kids.length td] by unfold Rt.v Rt.cs; rw [htrv, htkv])
      rw [HTV.out]
      have HRX := hide hrx
      have HFR := hide (hfr.mono (show w.heap.size + 1 ≤ w2.heap.size by have := M2.out.1.grown.size; simpa using this))
      clear hm3 hrx hfr htrv htkv
      go_wp2
      refine bodyPost_ret (v := .tuple #[.agg #[.int .i64 t.k, .string t.ch, .bool t.nt, .slice tA t.rows.length tc, .int .i64 t.mi, .int .i64 t.ma, .bool t.lz, .slice tB t.kids.length td], .int .i64 0]) ?_ rfl ⟨t, by rw [HTV.out], (rv8 (HMM.out) HNB.out (Nat.le_refl _) _ _ _ _ _ _ _ _ _ _ _ _ _ _ _ _), rx_kept HRX.out HFR.out (kept8 _ (Nat.lt_succ_self _) _ _ _ _ _ _ _ _ _ _ _ _ _ _ _ _), HFR.out.mono (Nat.le_succ _), rfl⟩
      rw [results_cell2 rfl]
      go_simp
  rw [hq2, if_neg (by decide)] at ho
  have HT2 := hide (fun W (hp : Rp W b A c zs l) => rr_take hp ⟨#[91]⟩ (by decide) false hq2)
  clear hq2
  rcases hq3 : (hdC l == [92]) with _ | _
  rotate_left
  · rw [hq3, if_pos rfl, hr1] at ho
    have h98' := h98 (by simpa using hq3)
    rw [hr1] at h98'
    have HC := hide (fun W (hp : Rp W b A c zs r1) => rback_any hp h98'.1 h98'.2 res ho)
    have HTT : Hid (∀ W, Rp W b A c zs l → Calls Try.prog 58 #[.pointer (some ⟨b, 0, none⟩), .string ⟨#[92]⟩] W fun e w' => e = .returned (.bool true) ∧ Rv W w' b zs r1) := hide (fun W hp => by rw [← hr1]; exact rr_take hp ⟨#[92]⟩ (by decide) true hq3)
    clear h98' hr1 hq3 ho
    clear h98 hprh hHD hne hl0
    go_enter Try.func64, Try.ntmps64
    go_wp2_with fail
    refine (HT0.out _ HP0.out).mono ?_
    rintro e u0 ⟨rfl, hm⟩
    have N0 : Hid (Rv (w.alloc (.cells #[.int .i64 0, .string ⟨#[]⟩, .bool false, .slice none 0 0, .int .i64 0, .int .i64 0, .bool false, .slice none 0 0] 25)) u0 b zs l) := hide hm
    clear hm
    go_wp2_with fail
    refine (HT1.out _ (N0.out.pl HP0.out)).mono ?_
    rintro e u1 ⟨rfl, hm⟩
    have N1 : Hid (Rv (w.alloc (.cells #[.int .i64 0, .string ⟨#[]⟩, .bool false, .slice none 0 0, .int .i64 0, .int .i64 0, .bool false, .slice none 0 0] 25)) u1 b zs l) := hide (N0.out.trans hm)
    clear hm
    go_wp2_with fail
    refine (HT2.out _ (N1.out.pl HP0.out)).mono ?_
    rintro e u2 ⟨rfl, hm⟩
    have N2 : Hid (Rv (w.alloc (.cells #[.int .i64 0, .string ⟨#[]⟩, .bool false, .slice none 0 0, .int .i64 0, .int .i64 0, .bool false, .slice none 0 0] 25)) u2 b zs l) := hide (N1.out.trans hm)
    clear hm
    go_wp2_with fail
    refine (HTT.out _ (N2.out.pl HP0.out)).mono ?_
    rintro e w2 ⟨rfl, hm⟩
    have M2 : Hid (Rv (w.alloc (.cells #[.int .i64 0, .string ⟨#[]⟩, .bool false, .slice none 0 0, .int .i64 0, .int .i64 0, .bool false, .slice none 0 0] 25)) w2 b zs r1) := hide (N2.out.trans hm)
    clear hm
    have Z2 := hide (Z0.out.mv M2.out.1 HNB.out)
    have M2w := hide (HSELF.out.trans M2.out)
    go_wp2_with fail
    refine (HC.out _ (M2.out.pl HP0.out)).mono ?_
    intro e w3 hp
    rcases res with _ | n | ⟨x, r2⟩
    · exact hp.elim
    · obtain ⟨rfl, k3, hm3⟩ := hp
      have HMM := hide (M2w.out.1.trans hm3)
      obtain ⟨z0, z1, z2, z3, z4, z5, z6, z7⟩ := (Z2.out.mv hm3 HNB.out).eight
      have hf1 := (Z2.out.mv hm3 HNB.out).f
      rw [show rt0.v = .agg #[.int .i64 0, .string ⟨#[]⟩, .bool false, .slice none 0 0, .int .i64 0, .int .i64 0, .bool false, .slice none 0 0] from rfl]
      clear hm3
      go_wp2
      refine bodyPost_ret (v := .tuple #[.agg #[.int .i64 0, .string ⟨#[]⟩, .bool false, .slice none 0 0, .int .i64 0, .int .i64 0, .bool false, .slice none 0 0], .int .i64 n]) ?_ rfl ⟨rfl, _, (mvd8 (HMM.out) HNB.out (Nat.le_refl _) _ _ _ _ _ _ _ _ _ _ _ _ _ _ _ _)⟩
      rw [results_cell2 rfl]
      go_simp
    · obtain ⟨t, rfl, hm3, hrx, hfr, her⟩ := hp
      subst her
      have HMM := hide (M2w.out.trans hm3)
      obtain ⟨z0, z1, z2, z3, z4, z5, z6, z7⟩ := (Z2.out.mv hm3.1 HNB.out).eight
      have hf1 := (Z2.out.mv hm3.1 HNB.out).f
      obtain ⟨tA, tc, htrv⟩ := rwat_len hrx.rows
      obtain ⟨tB, td, htkv⟩ := ksat_len hrx.ks
      have HTV := hide (show t.v = .agg #[.int .i64 t.k, .string t.ch, .bool t.nt, .slice tA t.rows.length tc, .int .i64 t.mi, .int .i64 t.ma, .bool t.lz, .slice tB t.kids.length td] by unfold Rt.v Rt.cs; rw [htrv, htkv])
      rw [HTV.out]
      have HRX := hide hrx
      have HFR := hide (hfr.mono (show w.heap.size + 1 ≤ w2.heap.size by have := M2.out.1.grown.size; simpa using this))
      clear hm3 hrx hfr htrv htkv
      go_wp2
      refine bodyPost_ret (v := .tuple #[.agg #[.int .i64 t.k, .string t.ch, .bool t.nt, .slice tA t.rows.length tc, .int .i64 t.mi, .int .i64 t.ma, .bool t.lz, .slice tB t.kids.length td], .int .i64 0]) ?_ rfl ⟨t, by rw [HTV.out], (rv8 (HMM.out) HNB.out (Nat.le_refl _) _ _ _ _ _ _ _ _ _ _ _ _ _ _ _ _), rx_kept HRX.out HFR.out (kept8 _ (Nat.lt_succ_self _) _ _ _ _ _ _ _ _ _ _ _ _ _ _ _ _), HFR.out.mono (Nat.le_succ _), rfl⟩
      rw [results_cell2 rfl]
      go_simp
  rw [hq3, if_neg (by decide)] at ho
  have HT3 := hide (fun W (hp : Rp W b A c zs l) => rr_take hp ⟨#[92]⟩ (by decide) false hq3)
  clear hq3
  rw [hr1] at ho
  obtain ⟨C, hC⟩ : ∃ C, bsC (hdC l) = C := ⟨_, rfl⟩
  have hCd : C.data.toList = hdC l := by rw [← hC, bsC_data]
  have hCz : C.size ≤ 100000 := by have h1 : C.size = (hdC l).length := by rw [← hCd]; exact (Array.length_toList).symm
                                   omega
  obtain ⟨k, hk⟩ : ∃ k, zs.length - (splitL l).length = k := ⟨_, rfl⟩
  have hk1000 : k ≤ 1000 := by have := HS.out.sz; omega
  have ew1 : IntKind.i64.wrap ((k : Int) + 1) = (k : Int) + 1 := by rw [IntKind.wrap_i64]; omega
  have HSEE := hide (fun W (hb : Below (w.alloc (.cells #[.int .i64 0, .string ⟨#[]⟩, .bool false, .slice none 0 0, .int .i64 0, .int .i64 0, .bool false, .slice none 0 0] 25)).heap.size (w.alloc (.cells #[.int .i64 0, .string ⟨#[]⟩, .bool false, .slice none 0 0, .int .i64 0, .int .i64 0, .bool false, .slice none 0 0] 25)) W) => rr_see_at HP0.out hb C hC k hk)
  have HST := hide (fun W W2 (hp : Rp W b A c zs l) (hb : Below W.heap.size W W2) => rr_step hp hl0 hb k hk)
  have HSE := hide (fun W (hp : Rp W b A c zs l) => rr_see_at hp (bl_refl W) C hC k hk)
  have HPRO := hide (fun W => rproper_any C true W hCz (by rw [hCd]; exact hprh))
  unfold endB at hne
  have hn0 : l.isEmpty = false := by cases q : l.isEmpty <;> simp [q] at hne ⊢
  have hn1 : (hdC l == [124]) = false := by cases q : (hdC l == [124]) <;> simp [q] at hne ⊢
  have hn2 : (hdC l == [41]) = false := by cases q : (hdC l == [41]) <;> simp [q] at hne ⊢
  rw [hC] at ho
  have HC := hide hC
  have hLC : ∀ (y : UInt8) (q : Bool), (hdC l == [y]) = q → (C.data.toList == [y]) = q := fun y q h => by rw [hCd]; exact h
  obtain ⟨yA, zA⟩ := lit_eq C #[124] false (hLC _ _ hn1)
  obtain ⟨yB, zB⟩ := lit_eq C #[41] false (hLC _ _ hn2)
  clear hk hk1000 hne hn0 hn1 hn2 hCd hCz hC h98 hprh hHD
  rcases hs0 : (hdC l == [42]) with _ | _
  rotate_left
  · rw [hs0, if_pos rfl] at ho
    subst ho
    obtain ⟨y0, z0'⟩ := lit_eq C #[42] true (hLC _ _ hs0)
    clear hLC hr1 hl0 hs0
    go_enter Try.func64, Try.ntmps64
    go_wp2_with fail
    refine (HT0.out _ HP0.out).mono ?_
    rintro e u0 ⟨rfl, hm⟩
    have N0 : Hid (Rv (w.alloc (.cells #[.int .i64 0, .string ⟨#[]⟩, .bool false, .slice none 0 0, .int .i64 0, .int .i64 0, .bool false, .slice none 0 0] 25)) u0 b zs l) := hide hm
    clear hm
    go_wp2_with fail
    refine (HT1.out _ (N0.out.pl HP0.out)).mono ?_
    rintro e u1 ⟨rfl, hm⟩
    have N1 : Hid (Rv (w.alloc (.cells #[.int .i64 0, .string ⟨#[]⟩, .bool false, .slice none 0 0, .int .i64 0, .int .i64 0, .bool false, .slice none 0 0] 25)) u1 b zs l) := hide (N0.out.trans hm)
    clear hm
    go_wp2_with fail
    refine (HT2.out _ (N1.out.pl HP0.out)).mono ?_
    rintro e u2 ⟨rfl, hm⟩
    have N2 : Hid (Rv (w.alloc (.cells #[.int .i64 0, .string ⟨#[]⟩, .bool false, .slice none 0 0, .int .i64 0, .int .i64 0, .bool false, .slice none 0 0] 25)) u2 b zs l) := hide (N1.out.trans hm)
    clear hm
    go_wp2_with fail
    refine (HT3.out _ (N2.out.pl HP0.out)).mono ?_
    rintro e u3 ⟨rfl, hm⟩
    have N3 : Hid (Rv (w.alloc (.cells #[.int .i64 0, .string ⟨#[]⟩, .bool false, .slice none 0 0, .int .i64 0, .int .i64 0, .bool false, .slice none 0 0] 25)) u3 b zs l) := hide (N2.out.trans hm)
    clear hm
    go_wp2_with fail
    refine (HSE.out _ (N3.out.pl HP0.out)).mono ?_
    rintro e w2 ⟨rfl, hb2, c2, f2⟩
    have M2 : Hid (Rv (w.alloc (.cells #[.int .i64 0, .string ⟨#[]⟩, .bool false, .slice none 0 0, .int .i64 0, .int .i64 0, .bool false, .slice none 0 0] 25)) w2 b zs l) := hide (N3.out.bl hb2)
    have Z2 := hide (Z0.out.mv M2.out.1 HNB.out)
    have M2w := hide (HSELF.out.trans M2.out)
    clear hb2
    obtain ⟨z0, z1, z2, z3, z4, z5, z6, z7⟩ := (Z2.out).eight
    have hf1 := (Z2.out).f
    go_wp2
    refine bodyPost_ret (v := .tuple #[.agg #[.int .i64 0, .string ⟨#[]⟩, .bool false, .slice none 0 0, .int .i64 0, .int .i64 0, .bool false, .slice none 0 0], .int .i64 10]) ?_ rfl ⟨rfl, _, (mvd8 (M2w.out.1) HNB.out (Nat.le_refl _) _ _ _ _ _ _ _ _ _ _ _ _ _ _ _ _)⟩
    rw [results_cell2 rfl]
    go_simp
  rw [hs0, if_neg (by decide)] at ho
  obtain ⟨y0, z0'⟩ := lit_eq C #[42] false (hLC _ _ hs0)
  rcases hs1 : (hdC l == [43]) with _ | _
  rotate_left
  · rw [hs1, if_pos rfl] at ho
    subst ho
    obtain ⟨y1, z1'⟩ := lit_eq C #[43] true (hLC _ _ hs1)
    clear hLC hr1 hl0 hs0 hs1
    go_enter Try.func64, Try.ntmps64
    go_wp2_with fail
    refine (HT0.out _ HP0.out).mono ?_
    rintro e u0 ⟨rfl, hm⟩
    have N0 : Hid (Rv (w.alloc (.cells #[.int .i64 0, .string ⟨#[]⟩, .bool false, .slice none 0 0, .int .i64 0, .int .i64 0, .bool false, .slice none 0 0] 25)) u0 b zs l) := hide hm
    clear hm
    go_wp2_with fail
    refine (HT1.out _ (N0.out.pl HP0.out)).mono ?_
    rintro e u1 ⟨rfl, hm⟩
    have N1 : Hid (Rv (w.alloc (.cells #[.int .i64 0, .string ⟨#[]⟩, .bool false, .slice none 0 0, .int .i64 0, .int .i64 0, .bool false, .slice none 0 0] 25)) u1 b zs l) := hide (N0.out.trans hm)
    clear hm
    go_wp2_with fail
    refine (HT2.out _ (N1.out.pl HP0.out)).mono ?_
    rintro e u2 ⟨rfl, hm⟩
    have N2 : Hid (Rv (w.alloc (.cells #[.int .i64 0, .string ⟨#[]⟩, .bool false, .slice none 0 0, .int .i64 0, .int .i64 0, .bool false, .slice none 0 0] 25)) u2 b zs l) := hide (N1.out.trans hm)
    clear hm
    go_wp2_with fail
    refine (HT3.out _ (N2.out.pl HP0.out)).mono ?_
    rintro e u3 ⟨rfl, hm⟩
    have N3 : Hid (Rv (w.alloc (.cells #[.int .i64 0, .string ⟨#[]⟩, .bool false, .slice none 0 0, .int .i64 0, .int .i64 0, .bool false, .slice none 0 0] 25)) u3 b zs l) := hide (N2.out.trans hm)
    clear hm
    go_wp2_with fail
    refine (HSE.out _ (N3.out.pl HP0.out)).mono ?_
    rintro e w2 ⟨rfl, hb2, c2, f2⟩
    have M2 : Hid (Rv (w.alloc (.cells #[.int .i64 0, .string ⟨#[]⟩, .bool false, .slice none 0 0, .int .i64 0, .int .i64 0, .bool false, .slice none 0 0] 25)) w2 b zs l) := hide (N3.out.bl hb2)
    have Z2 := hide (Z0.out.mv M2.out.1 HNB.out)
    have M2w := hide (HSELF.out.trans M2.out)
    clear hb2
    obtain ⟨z0, z1, z2, z3, z4, z5, z6, z7⟩ := (Z2.out).eight
    have hf1 := (Z2.out).f
    go_wp2
    refine bodyPost_ret (v := .tuple #[.agg #[.int .i64 0, .string ⟨#[]⟩, .bool false, .slice none 0 0, .int .i64 0, .int .i64 0, .bool false, .slice none 0 0], .int .i64 10]) ?_ rfl ⟨rfl, _, (mvd8 (M2w.out.1) HNB.out (Nat.le_refl _) _ _ _ _ _ _ _ _ _ _ _ _ _ _ _ _)⟩
    rw [results_cell2 rfl]
    go_simp
  rw [hs1, if_neg (by decide)] at ho
  obtain ⟨y1, z1'⟩ := lit_eq C #[43] false (hLC _ _ hs1)
  rcases hs2 : (hdC l == [63]) with _ | _
  rotate_left
  · rw [hs2, if_pos rfl] at ho
    subst ho
    obtain ⟨y2, z2'⟩ := lit_eq C #[63] true (hLC _ _ hs2)
    clear hLC hr1 hl0 hs0 hs1 hs2
    go_enter Try.func64, Try.ntmps64
    go_wp2_with fail
    refine (HT0.out _ HP0.out).mono ?_
    rintro e u0 ⟨rfl, hm⟩
    have N0 : Hid (Rv (w.alloc (.cells #[.int .i64 0, .string ⟨#[]⟩, .bool false, .slice none 0 0, .int .i64 0, .int .i64 0, .bool false, .slice none 0 0] 25)) u0 b zs l) := hide hm
    clear hm
    go_wp2_with fail
    refine (HT1.out _ (N0.out.pl HP0.out)).mono ?_
    rintro e u1 ⟨rfl, hm⟩
    have N1 : Hid (Rv (w.alloc (.cells #[.int .i64 0, .string ⟨#[]⟩, .bool false, .slice none 0 0, .int .i64 0, .int .i64 0, .bool false, .slice none 0 0] 25)) u1 b zs l) := hide (N0.out.trans hm)
    clear hm
    go_wp2_with fail
    refine (HT2.out _ (N1.out.pl HP0.out)).mono ?_
    rintro e u2 ⟨rfl, hm⟩
    have N2 : Hid (Rv (w.alloc (.cells #[.int .i64 0, .string ⟨#[]⟩, .bool false, .slice none 0 0, .int .i64 0, .int .i64 0, .bool false, .slice none 0 0] 25)) u2 b zs l) := hide (N1.out.trans hm)
    clear hm
    go_wp2_with fail
    refine (HT3.out _ (N2.out.pl HP0.out)).mono ?_
    rintro e u3 ⟨rfl, hm⟩
    have N3 : Hid (Rv (w.alloc (.cells #[.int .i64 0, .string ⟨#[]⟩, .bool false, .slice none 0 0, .int .i64 0, .int .i64 0, .bool false, .slice none 0 0] 25)) u3 b zs l) := hide (N2.out.trans hm)
    clear hm
    go_wp2_with fail
    refine (HSE.out _ (N3.out.pl HP0.out)).mono ?_
    rintro e w2 ⟨rfl, hb2, c2, f2⟩
    have M2 : Hid (Rv (w.alloc (.cells #[.int .i64 0, .string ⟨#[]⟩, .bool false, .slice none 0 0, .int .i64 0, .int .i64 0, .bool false, .slice none 0 0] 25)) w2 b zs l) := hide (N3.out.bl hb2)
    have Z2 := hide (Z0.out.mv M2.out.1 HNB.out)
    have M2w := hide (HSELF.out.trans M2.out)
    clear hb2
    obtain ⟨z0, z1, z2, z3, z4, z5, z6, z7⟩ := (Z2.out).eight
    have hf1 := (Z2.out).f
    go_wp2
    refine bodyPost_ret (v := .tuple #[.agg #[.int .i64 0, .string ⟨#[]⟩, .bool false, .slice none 0 0, .int .i64 0, .int .i64 0, .bool false, .slice none 0 0], .int .i64 10]) ?_ rfl ⟨rfl, _, (mvd8 (M2w.out.1) HNB.out (Nat.le_refl _) _ _ _ _ _ _ _ _ _ _ _ _ _ _ _ _)⟩
    rw [results_cell2 rfl]
    go_simp
  rw [hs2, if_neg (by decide)] at ho
  obtain ⟨y2, z2'⟩ := lit_eq C #[63] false (hLC _ _ hs2)
  rcases hs3 : (hdC l == [123]) with _ | _
  rotate_left
  · rw [hs3, if_pos rfl] at ho
    subst ho
    obtain ⟨y3, z3'⟩ := lit_eq C #[123] true (hLC _ _ hs3)
    clear hLC hr1 hl0 hs0 hs1 hs2 hs3
    go_enter Try.func64, Try.ntmps64
    go_wp2_with fail
    refine (HT0.out _ HP0.out).mono ?_
    rintro e u0 ⟨rfl, hm⟩
    have N0 : Hid (Rv (w.alloc (.cells #[.int .i64 0, .string ⟨#[]⟩, .bool false, .slice none 0 0, .int .i64 0, .int .i64 0, .bool false, .slice none 0 0] 25)) u0 b zs l) := hide hm
    clear hm
    go_wp2_with fail
    refine (HT1.out _ (N0.out.pl HP0.out)).mono ?_
    rintro e u1 ⟨rfl, hm⟩
    have N1 : Hid (Rv (w.alloc (.cells #[.int .i64 0, .string ⟨#[]⟩, .bool false, .slice none 0 0, .int .i64 0, .int .i64 0, .bool false, .slice none 0 0] 25)) u1 b zs l) := hide (N0.out.trans hm)
    clear hm
    go_wp2_with fail
    refine (HT2.out _ (N1.out.pl HP0.out)).mono ?_
    rintro e u2 ⟨rfl, hm⟩
    have N2 : Hid (Rv (w.alloc (.cells #[.int .i64 0, .string ⟨#[]⟩, .bool false, .slice none 0 0, .int .i64 0, .int .i64 0, .bool false, .slice none 0 0] 25)) u2 b zs l) := hide (N1.out.trans hm)
    clear hm
    go_wp2_with fail
    refine (HT3.out _ (N2.out.pl HP0.out)).mono ?_
    rintro e u3 ⟨rfl, hm⟩
    have N3 : Hid (Rv (w.alloc (.cells #[.int .i64 0, .string ⟨#[]⟩, .bool false, .slice none 0 0, .int .i64 0, .int .i64 0, .bool false, .slice none 0 0] 25)) u3 b zs l) := hide (N2.out.trans hm)
    clear hm
    go_wp2_with fail
    refine (HSE.out _ (N3.out.pl HP0.out)).mono ?_
    rintro e w2 ⟨rfl, hb2, c2, f2⟩
    have M2 : Hid (Rv (w.alloc (.cells #[.int .i64 0, .string ⟨#[]⟩, .bool false, .slice none 0 0, .int .i64 0, .int .i64 0, .bool false, .slice none 0 0] 25)) w2 b zs l) := hide (N3.out.bl hb2)
    have Z2 := hide (Z0.out.mv M2.out.1 HNB.out)
    have M2w := hide (HSELF.out.trans M2.out)
    clear hb2
    obtain ⟨z0, z1, z2, z3, z4, z5, z6, z7⟩ := (Z2.out).eight
    have hf1 := (Z2.out).f
    go_wp2
    refine bodyPost_ret (v := .tuple #[.agg #[.int .i64 0, .string ⟨#[]⟩, .bool false, .slice none 0 0, .int .i64 0, .int .i64 0, .bool false, .slice none 0 0], .int .i64 10]) ?_ rfl ⟨rfl, _, (mvd8 (M2w.out.1) HNB.out (Nat.le_refl _) _ _ _ _ _ _ _ _ _ _ _ _ _ _ _ _)⟩
    rw [results_cell2 rfl]
    go_simp
  rw [hs3, if_neg (by decide)] at ho
  obtain ⟨y3, z3'⟩ := lit_eq C #[123] false (hLC _ _ hs3)
  subst ho
  clear hLC hl0 hs0 hs1 hs2 hs3
  go_enter Try.func64, Try.ntmps64
  go_wp2_with fail
  refine (HT0.out _ HP0.out).mono ?_
  rintro e u0 ⟨rfl, hm⟩
  have N0 : Hid (Rv (w.alloc (.cells #[.int .i64 0, .string ⟨#[]⟩, .bool false, .slice none 0 0, .int .i64 0, .int .i64 0, .bool false, .slice none 0 0] 25)) u0 b zs l) := hide hm
  clear hm
  go_wp2_with fail
  refine (HT1.out _ (N0.out.pl HP0.out)).mono ?_
  rintro e u1 ⟨rfl, hm⟩
  have N1 : Hid (Rv (w.alloc (.cells #[.int .i64 0, .string ⟨#[]⟩, .bool false, .slice none 0 0, .int .i64 0, .int .i64 0, .bool false, .slice none 0 0] 25)) u1 b zs l) := hide (N0.out.trans hm)
  clear hm
  go_wp2_with fail
  refine (HT2.out _ (N1.out.pl HP0.out)).mono ?_
  rintro e u2 ⟨rfl, hm⟩
  have N2 : Hid (Rv (w.alloc (.cells #[.int .i64 0, .string ⟨#[]⟩, .bool false, .slice none 0 0, .int .i64 0, .int .i64 0, .bool false, .slice none 0 0] 25)) u2 b zs l) := hide (N1.out.trans hm)
  clear hm
  go_wp2_with fail
  refine (HT3.out _ (N2.out.pl HP0.out)).mono ?_
  rintro e u3 ⟨rfl, hm⟩
  have N3 : Hid (Rv (w.alloc (.cells #[.int .i64 0, .string ⟨#[]⟩, .bool false, .slice none 0 0, .int .i64 0, .int .i64 0, .bool false, .slice none 0 0] 25)) u3 b zs l) := hide (N2.out.trans hm)
  clear hm
  go_wp2_with fail
  refine (HSE.out _ (N3.out.pl HP0.out)).mono ?_
  rintro e w2 ⟨rfl, hb2, c2, f2⟩
  have M2 : Hid (Rv (w.alloc (.cells #[.int .i64 0, .string ⟨#[]⟩, .bool false, .slice none 0 0, .int .i64 0, .int .i64 0, .bool false, .slice none 0 0] 25)) w2 b zs l) := hide (N3.out.bl hb2)
  have Z2 := hide (Z0.out.mv M2.out.1 HNB.out)
  have M2w := hide (HSELF.out.trans M2.out)
  go_wp2_with fail
  refine (HPRO.out _).mono ?_
  rintro e w3 ⟨rfl, hb3⟩
  have c3 := cell_later hb3 c2
  have f3 := (hb3.frozen (p := ⟨b, 1, none⟩) (World.block_lt_of_cell? _ _ c2)).trans f2
  have M3 := hide ((M2w.out.bl (bl_refl _)).trans (hr1 ▸ HST.out _ _ (M2.out.pl HP0.out) hb3))
  have Z3 := hide (Z2.out.bl hb3)
  clear hb2 hb3 c2 f2 hr1
  obtain ⟨z0, z1, z2, z3, z4, z5, z6, z7⟩ := (Z3.out).eight
  have hf1 := (Z3.out).f
  go_wp2
  refine bodyPost_ret (v := .tuple #[.agg #[.int .i64 2, .string C, .bool false, .slice none 0 0, .int .i64 0, .int .i64 0, .bool false, .slice none 0 0], .int .i64 0]) ?_ rfl ⟨chX C, rfl, (rv8 (M3.out) HNB.out (Nat.le_refl _) _ _ _ _ _ _ _ _ _ _ _ _ _ _ _ _), rx_leaf _ _ rfl rfl rfl rfl, fr_leaf _ _ rfl rfl rfl, rfl⟩
  rw [results_cell2 rfl]
  go_simp
end
section
open Go.ChangeShapes Go.WideShapes Go.ChangeAt Go.RowKit
open SetM
attribute [local go_sem ↓] Go.wp_at_zero Go.wp_at_succ
set_option maxRecDepth 100000
set_option linter.unusedVariables false
theorem Fr.kid {n : Nat} {t x : Rt} (h : Fr n t) (hx : x ∈ t.kids) : Fr n x := by cases h with | mk _ _ _ hs => exact hs x hx
def RsfPost (N : Nat) (x : Rt) (w : World) : Ending → World → Prop := fun e w' => ∃ t', e = .returned t'.v ∧ Below w.heap.size w w' ∧ RxAt w' t' ∧ er t' = x ∧ Fr N t'
def KpfPost (N : Nat) (kind : Int) (l : List Rt) (w0 w : World) : Ending → World → Prop := fun e w' => ∃ v' L, e = .returned v' ∧ Below w.heap.size w w' ∧ KsAt w' v' L ∧ FrV w.heap.size v' ∧ (∀ x ∈ L, RxAt w0 x ∧ Fr N x) ∧ L.map er = flK kind l
set_option maxHeartbeats 16000000 in
theorem rkidsf_any {N : Nat} (kind : Int) (v : Value) (l : List Rt) (w0 w : World) (h : KsAt w0 v l) (hx : ∀ i (hi : i < l.length), RxAt w0 l[i]) (hz : sL l ≤ 100000) (hb0 : Below w0.heap.size w0 w) (hfx : ∀ i (hi : i < l.length), Fr N l[i]) :
    Calls Try.prog 34 #[.int .i64 kind, v] w (KpfPost N kind l w0 w) := by
  obtain ⟨i0, hi0, hz0', hz1, hz2⟩ := info_parts info_rx
  obtain ⟨vA, vc, rfl⟩ := ksat_len h
  have H := hide h
  have HX := hide hx
  have HFXX := hide hfx
  have hll := sL_len l
  have HZ := hide hz
  have HB0 := hide hb0
  have hst : FInv (fun t => RxAt w0 t ∧ Fr N t) kind l w (.slice none 0 0) (.int .i64 0) w := ⟨0, [], none, 0, rfl, rfl, Nat.zero_le _, by simp, hide ⟨by simp [flatX], .inl ⟨rfl, rfl⟩⟩, hide (bl_refl w), hide (fun x hx => by cases hx), hide (by simp [flK])⟩
  have HST0 := hide hst
  clear h hx hst hz hb0 hfx
  go_enter Try.func34, Try.ntmps34
  go_wp2
  go_loopw [5, 6] (fun s i wr => FInv (fun t => RxAt w0 t ∧ Fr N t) kind l w s i wr) (fun _ i _ => l.length - (intOf i).toNat)
  case atStart => exact HST0.out
  case round =>
    obtain ⟨k, L, A, c, rfl, rfl, hk, hlen, HROW, HBL, HALL, HE⟩ := hrel
    by_cases hlt : k < l.length
    · obtain ⟨b1, o1, c1', hv1, hc1, hm1, hlb1, hcell1⟩ := ksat_8 (ksat_below H.out (bl_trans HB0.out HBL.out)) (by omega)
      injection hv1 with hv1 _ hv1c
      subst hv1 hv1c
      unfold maxLen at hm1
      obtain ⟨x0, x1, x2, x3, x4, x5, x6, x7⟩ := hcell1 k hlt
      have hxp := HX.out k hlt
      have hfp9 := HFXX.out k hlt
      clear hcell1
      obtain ⟨p, hp⟩ : ∃ p, l[k] = p := ⟨_, rfl⟩
      rw [hp] at x0 x1 x2 x3 x4 x5 x6 x7 hxp hfp9
      obtain ⟨pA, pc, hprv⟩ := rwat_len hxp.rows
      obtain ⟨pB, pd, hpkv⟩ := ksat_len hxp.ks
      rw [hprv] at x3
      rw [hpkv] at x7
      have hlk : p.kids.length ≤ 100000 := by
        have h1 := sL_kid l k hlt
        have h2 := sM_eq p
        have h3 := sL_len p.kids
        have h4 := HZ.out
        rw [hp] at h1
        omega
      have hlL : L.length ≤ 100000 := by have h4 := HZ.out; have := sL_take l k; omega
      have HLEN := hide hlen
      have HP := hide hp
      have HKL := hide hlt
      have HMM := hide (show p.kids.length ≤ sM (l[k]'hlt) ∧ 1 ≤ sM (l[k]'hlt) by
        rw [hp]
        have h2 := sM_eq p
        have h3 := sL_len p.kids
        omega)
      have HCS := hide (show p.cs = [.int .i64 p.k, .string p.ch, .bool p.nt, .slice pA p.rows.length pc, .int .i64 p.mi, .int .i64 p.ma, .bool p.lz, .slice pB p.kids.length pd] by unfold Rt.cs; rw [hprv, hpkv])
      have HXP := hide hxp
      have HFP9 := hide hfp9
      have HSRC := hide (fun W (hh : Below wr.heap.size wr W) => (show Src W 8 pB p.kids.length (flatX p.kids) from by
        have h2 := ksat_below hxp.ks (bl_trans HB0.out (bl_trans HBL.out hh))
        rw [hpkv] at h2
        exact ksat_src h2))
      have HONE := hide (one_cellX p.kids (fun x hx => by obtain ⟨i, hi, rfl⟩ := List.mem_iff_getElem.1 hx; exact hxp.kid i hi))
      have HONE1 := hide (one_cellX [p] (fun x hx => by rw [List.mem_singleton] at hx; subst hx; exact hxp))
      have HFINV := hide (fun (M : List Rt) (W3 : World) (b3 : Below wr.heap.size wr W3) (hM : ∀ x ∈ M, RxAt w0 x ∧ Fr N x) (v' : Value) (w4 : World) (ho : w4.ownsRow w.heap.size 25 8 v' (L.length + M.length) (flatX L ++ flatX M)) (hg : W3.grownBy w4 (Value.slice A L.length c).ownBlock)
          (h5 : v'.ownBlock = (Value.slice A L.length c).ownBlock ∨ ∃ k, v'.ownBlock = some k ∧ W3.heap.size ≤ k) (hm : M.length ≤ sM (l[k]'HKL.out)) (hE2 : M.map er = if (l[k]'HKL.out).k = kind then (l[k]'HKL.out).kids.map er else [er (l[k]'HKL.out)]) =>
        finv_step (Q := fun t => RxAt w0 t ∧ Fr N t) HKL.out (fun x hx => ⟨⟨rx_below (HALL.out x hx).1.1 b3, (HALL.out x hx).1.2⟩, (HALL.out x hx).2⟩) (fun x hx => ⟨⟨rx_below (hM x hx).1 (bl_trans HB0.out (bl_trans HBL.out b3)), fun g hg => off_new (hM x hx).1 (Nat.le_trans HB0.out.size (World.ownsRow.lt HROW.out g hg).1)⟩, hM x hx⟩) ho hg h5 (bl_own (bl_trans HBL.out b3) (own_below HROW.out b3) hg (Nat.le_refl _)) HLEN.out hm HE.out hE2)
      have HSZ := hide HBL.out.size
      have gl : decide (k < l.length) = true := decide_eq_true hlt
      have gl' : decide ((k : Int) < (l.length : Int)) = true := decide_eq_true (by omega)
      have e5 : IntKind.i64.wrap ((k : Int) + 1) = (k : Int) + 1 := by rw [IntKind.wrap_i64]; omega
      have i1 : (0 : Int) ≤ (k : Int) := by omega
      have i2 : (k : Int) < (l.length : Int) := by omega
      clear hxp hfp9 hprv hpkv hp hlen
      by_cases hke : p.k = kind
      · have gk : (p.k == kind) = true := beq_iff_eq.2 hke
        have HE2 := hide (show p.kids.map er = if (l[k]'HKL.out).k = kind then (l[k]'HKL.out).kids.map er else [er (l[k]'HKL.out)] by rw [HP.out, if_pos hke])
        clear hke
        go_wp2_with (at_builtin; go_must (refine wpList_src5 _ rfl _ _ 23 rfl w.heap.size 25 i0 rt0.v 8 104 Try.underlying23 hi0 hz0' hz1 hz2 rfl (by decide) (.slice A L.length c) L.length (flatX L) rfl HROW.out pB p.kids.length pd (flatX p.kids) rfl (HSRC.out _ (bl_refl _)) HONE.out (by omega) (by decide) HSZ.out ?_); intro v' w4 hv4 hg4 h5)
        have HST := hide (HFINV.out p.kids _ (bl_refl _) (fun x hx => by obtain ⟨i, hi, rfl⟩ := List.mem_iff_getElem.1 hx; exact ⟨HXP.out.kid i hi, HFP9.out.kid (List.getElem_mem hi)⟩) v' w4 hv4 hg4 h5 HMM.out.1 HE2.out)
        clear hv4 hg4 h5
        go_wp2
        refine ⟨?_, by first | (simp [intOf]; done) | (simp [intOf]; omega)⟩
        exact HST.out
      · have gk : (p.k == kind) = false := beq_eq_false_iff_ne.2 hke
        have HE2 := hide (show [p].map er = if (l[k]'HKL.out).k = kind then (l[k]'HKL.out).kids.map er else [er (l[k]'HKL.out)] by rw [HP.out, if_neg hke]; rfl)
        have HFX := hide (show flatX [p] = [.int .i64 p.k, .string p.ch, .bool p.nt, .slice pA p.rows.length pc, .int .i64 p.mi, .int .i64 p.ma, .bool p.lz, .slice pB p.kids.length pd] by unfold flatX; simp [HCS.out])
        have hone1 := HONE1.out
        rw [HFX.out] at hone1
        have HO1 := hide hone1
        clear hke hone1
        go_wp2_with (at_builtin; go_must (refine wpList_src5 _ rfl _ _ 23 rfl w.heap.size 25 i0 rt0.v 8 104 Try.underlying23 hi0 hz0' hz1 hz2 rfl (by decide) (.slice A L.length c) L.length (flatX L) rfl (own_below HROW.out (bl_alloc (bl_refl _) _)) (some ⟨_, 0, none⟩) 1 1 [.int .i64 p.k, .string p.ch, .bool p.nt, .slice pA p.rows.length pc, .int .i64 p.mi, .int .i64 p.ma, .bool p.lz, .slice pB p.kids.length pd] rfl (src_block (cs := #[.int .i64 p.k, .string p.ch, .bool p.nt, .slice pA p.rows.length pc, .int .i64 p.mi, .int .i64 p.ma, .bool p.lz, .slice pB p.kids.length pd]) (heap_new (by simp)) rfl) HO1.out (by omega) (by decide) (Nat.le_trans HSZ.out (bl_alloc (bl_refl _) _).size) ?_); intro v' w4 hv4 hg4 h5)
        rw [← HFX.out] at hv4
        have HST := hide (HFINV.out [p] _ (bl_alloc (bl_refl _) _) (fun x hx => by rw [List.mem_singleton] at hx; subst hx; exact ⟨HXP.out, HFP9.out⟩) v' w4 hv4 hg4 h5 HMM.out.2 HE2.out)
        clear hv4 hg4 h5
        go_wp2
        refine ⟨?_, by first | (simp [intOf]; done) | (simp [intOf]; omega)⟩
        exact HST.out
    · obtain rfl : k = l.length := by omega
      have ho := HROW.out
      have gl : decide (l.length < l.length) = false := by simp
      have gl' : decide ((l.length : Int) < (l.length : Int)) = false := by simp
      have he := HE.out
      rw [List.take_length] at he
      have HE2 := hide he
      have HKS := hide (own_ksat ho)
      have HFV := hide (show FrV w.heap.size (.slice A L.length c) from fun x len d e => by
        rcases own_form ho with ⟨h1, _⟩ | ⟨g, c2, h1, h2, _⟩
        · rw [e] at h1; cases h1
        · rw [e] at h1; injection h1 with h1; injection h1 with h1; subst h1; exact h2)
      clear ho he
      go_wp2
      go_ret
      unfold KpfPost
      exact ⟨_, L, rfl, HBL.out, HKS.out, HFV.out, fun x hx => (HALL.out x hx).2, HE2.out⟩
set_option maxHeartbeats 16000000 in
theorem rseqf_any {N : Nat} (v : Value) (l : List Rt) (w : World) (h : KsAt w v l) (hx : ∀ i (hi : i < l.length), RxAt w l[i]) (hz : sL l ≤ 100000) (hfx : ∀ i (hi : i < l.length), Fr N l[i]) (hN : N ≤ w.heap.size) :
    Calls Try.prog 22 #[v] w (RsfPost N (seqX (flK 0 l)) w) := by
  obtain ⟨vA, vc, rfl⟩ := ksat_len h
  have HC := hide (fun o => rkidsf_any 0 _ l w (w.alloc o) h hx hz (bl_alloc (bl_refl w) o) hfx)
  unfold RsfPost
  unfold KpfPost at HC
  clear h hx hz hfx
  have HNN := hide hN
  clear hN
  go_enter Try.func22, Try.ntmps22
  go_wp2_with fail
  refine (HC.out _).mono ?_
  rintro e w2 ⟨v', L, rfl, hb2, hks, hfv, hrl, hel⟩
  obtain ⟨A, c, rfl⟩ := ksat_len hks
  have z0 : w2.cell? ⟨w.heap.size, 0, none⟩ = some (.int .i64 0) := cell_later hb2 (cells_lit w _ _ 0 _ rfl)
  have z1 : w2.cell? ⟨w.heap.size, 1, none⟩ = some (.string ⟨#[]⟩) := cell_later hb2 (cells_lit w _ _ 1 _ rfl)
  have z2 : w2.cell? ⟨w.heap.size, 2, none⟩ = some (.bool false) := cell_later hb2 (cells_lit w _ _ 2 _ rfl)
  have z3 : w2.cell? ⟨w.heap.size, 3, none⟩ = some (.slice none 0 0) := cell_later hb2 (cells_lit w _ _ 3 _ rfl)
  have z4 : w2.cell? ⟨w.heap.size, 4, none⟩ = some (.int .i64 0) := cell_later hb2 (cells_lit w _ _ 4 _ rfl)
  have z5 : w2.cell? ⟨w.heap.size, 5, none⟩ = some (.int .i64 0) := cell_later hb2 (cells_lit w _ _ 5 _ rfl)
  have z6 : w2.cell? ⟨w.heap.size, 6, none⟩ = some (.bool false) := cell_later hb2 (cells_lit w _ _ 6 _ rfl)
  have z7 : w2.cell? ⟨w.heap.size, 7, none⟩ = some (.slice none 0 0) := cell_later hb2 (cells_lit w _ _ 7 _ rfl)
  have hf1 : ∀ o, w2.frozen? ⟨w.heap.size, o, none⟩ = false := fun o => (hb2.frozen (p := ⟨w.heap.size, o, none⟩) (by simp)).trans (by go_simp)
  have HB2 := hide (bl_trans (bl_alloc (bl_refl w) _) hb2)
  have hn : w.heap.size + 1 ≤ (w.alloc (.cells #[.int .i64 0, .string ⟨#[]⟩, .bool false, .slice none 0 0, .int .i64 0, .int .i64 0, .bool false, .slice none 0 0] 25)).heap.size := by simp
  have HKS := hide hks
  have HFV := hide (hfv.mono hn)
  have HFL := hide (fun x hx => off_new (hrl x hx).1 (Nat.le_refl _))
  have HRL := hide (fun x hx => rx_below (hrl x hx).1 HB2.out)
  have HEL := hide hel
  have HFN := hide (fun x hx => (hrl x hx).2)
  have hsz : w.heap.size < w2.heap.size := by have := hb2.size; simp at this; omega
  have hlen : L.length = (flK 0 l).length := by rw [← hel, List.length_map]
  clear hb2 hks hfv hrl hel hn
  by_cases hl1 : L.length = 1
  · have g1 : ((L.length : Int) == 1) = true := beq_iff_eq.2 (by omega)
    have HX := hide (show seqX (flK 0 l) = (flK 0 l).headD (kdX 0 []) from if_pos (by omega))
    obtain ⟨b1, o1, c1', hv1, hc1, hm1, hlb1, hcell1⟩ := ksat_8 HKS.out (by omega)
    injection hv1 with hv1 _ hv1c
    subst hv1 hv1c
    unfold maxLen at hm1
    obtain ⟨q0, q1, q2, q3, q4, q5, q6, q7⟩ := hcell1 0 (by omega)
    have hmem : L[0] ∈ L := List.getElem_mem _
    have hxp := HRL.out _ hmem
    have hfp := HFL.out _ hmem
    have hfn := HFN.out _ hmem
    have hE : er L[0] = (flK 0 l).headD (kdX 0 []) := by
      have := HEL.out
      rw [← this]
      cases L with
      | nil => simp at hl1
      | cons a r => rfl
    obtain ⟨p, hp⟩ : ∃ p, L[0] = p := ⟨_, rfl⟩
    rw [hp] at q0 q1 q2 q3 q4 q5 q6 q7 hxp hfp hE hfn
    obtain ⟨pA, pc, hprv⟩ := rwat_len hxp.rows
    obtain ⟨pB, pd, hpkv⟩ := ksat_len hxp.ks
    have hv : p.v = .agg #[.int .i64 p.k, .string p.ch, .bool p.nt, .slice pA p.rows.length pc, .int .i64 p.mi, .int .i64 p.ma, .bool p.lz, .slice pB p.kids.length pd] := by unfold Rt.v Rt.cs; rw [hprv, hpkv]
    rw [hprv] at q3
    rw [hpkv] at q7
    simp only [Nat.zero_mul, Nat.add_zero] at q0 q1 q2 q3 q4 q5 q6 q7
    have HXP := hide hxp
    have HFP := hide hfp
    have HFNP := hide hfn
    have HE := hide hE
    have HV := hide hv
    have i2 : (0 : Int) < (L.length : Int) := by omega
    clear hxp hfp hfn hE hprv hpkv hp hmem hcell1 hv hlen
    go_wp2
    refine bodyPost_ret (v := .agg #[.int .i64 p.k, .string p.ch, .bool p.nt, .slice pA p.rows.length pc, .int .i64 p.mi, .int .i64 p.ma, .bool p.lz, .slice pB p.kids.length pd]) ?_ rfl ⟨p, by rw [HV.out], ?_, ?_, ?_, ?_⟩
    · rw [results_cell1 rfl]
      go_simp
    · exact bl8 HB2.out (Nat.le_refl _) _ _ _ _ _ _ _ _ _ _ _ _ _ _ _ _
    · exact rx_off HXP.out HFP.out (grown8 _ _ _ _ _ _ _ _ _ _ _ _ _ _ _ _ _)
    · rw [HE.out, HX.out]
    · exact HFNP.out
  · have g1 : ((L.length : Int) == 1) = false := beq_eq_false_iff_ne.2 (by omega)
    have HX := hide (show seqX (flK 0 l) = kdX 0 (flK 0 l) from if_neg (by omega))
    clear hlen
    go_wp2
    refine bodyPost_ret (v := .agg #[.int .i64 0, .string ⟨#[]⟩, .bool false, .slice none 0 0, .int .i64 0, .int .i64 0, .bool false, .slice A L.length c]) ?_ rfl ⟨Rt.mk 0 ⟨#[]⟩ false (.slice none 0 0) [] 0 0 false (.slice A L.length c) L, rfl, ?_, ?_, ?_, ?_⟩
    · rw [results_cell1 rfl]
      go_simp
    · exact bl8 HB2.out (Nat.le_refl _) _ _ _ _ _ _ _ _ _ _ _ _ _ _ _ _
    · exact .mk _ (.inl ⟨rfl, rfl⟩) (ksat_kept HKS.out HFV.out (kept8 _ (Nat.lt_succ_self _) _ _ _ _ _ _ _ _ _ _ _ _ _ _ _ _)) (fun i hi => rx_off (HRL.out _ (List.getElem_mem hi)) (HFL.out _ (List.getElem_mem hi)) (grown8 _ _ _ _ _ _ _ _ _ _ _ _ _ _ _ _ _))
    · rw [HX.out, er_eq]
      show kdX 0 (L.map er) = _
      rw [HEL.out]
    · exact .mk _ (frv_nil _) (HFV.out.mono (Nat.le_trans HNN.out (Nat.le_succ _))) (fun x hx => HFN.out x hx)
set_option maxHeartbeats 16000000 in
theorem raltf_any {N : Nat} (v : Value) (l : List Rt) (w : World) (h : KsAt w v l) (hx : ∀ i (hi : i < l.length), RxAt w l[i]) (hz : sL l ≤ 100000) (hfx : ∀ i (hi : i < l.length), Fr N l[i]) (hN : N ≤ w.heap.size) :
    Calls Try.prog 24 #[v] w (RsfPost N (altX (flK 1 l)) w) := by
  obtain ⟨vA, vc, rfl⟩ := ksat_len h
  have HC := hide (fun o => rkidsf_any 1 _ l w (w.alloc o) h hx hz (bl_alloc (bl_refl w) o) hfx)
  unfold RsfPost
  unfold KpfPost at HC
  clear h hx hz hfx
  have HNN := hide hN
  clear hN
  go_enter Try.func24, Try.ntmps24
  go_wp2_with fail
  refine (HC.out _).mono ?_
  rintro e w2 ⟨v', L, rfl, hb2, hks, hfv, hrl, hel⟩
  obtain ⟨A, c, rfl⟩ := ksat_len hks
  have z0 : w2.cell? ⟨w.heap.size, 0, none⟩ = some (.int .i64 0) := cell_later hb2 (cells_lit w _ _ 0 _ rfl)
  have z1 : w2.cell? ⟨w.heap.size, 1, none⟩ = some (.string ⟨#[]⟩) := cell_later hb2 (cells_lit w _ _ 1 _ rfl)
  have z2 : w2.cell? ⟨w.heap.size, 2, none⟩ = some (.bool false) := cell_later hb2 (cells_lit w _ _ 2 _ rfl)
  have z3 : w2.cell? ⟨w.heap.size, 3, none⟩ = some (.slice none 0 0) := cell_later hb2 (cells_lit w _ _ 3 _ rfl)
  have z4 : w2.cell? ⟨w.heap.size, 4, none⟩ = some (.int .i64 0) := cell_later hb2 (cells_lit w _ _ 4 _ rfl)
  have z5 : w2.cell? ⟨w.heap.size, 5, none⟩ = some (.int .i64 0) := cell_later hb2 (cells_lit w _ _ 5 _ rfl)
  have z6 : w2.cell? ⟨w.heap.size, 6, none⟩ = some (.bool false) := cell_later hb2 (cells_lit w _ _ 6 _ rfl)
  have z7 : w2.cell? ⟨w.heap.size, 7, none⟩ = some (.slice none 0 0) := cell_later hb2 (cells_lit w _ _ 7 _ rfl)
  have hf1 : ∀ o, w2.frozen? ⟨w.heap.size, o, none⟩ = false := fun o => (hb2.frozen (p := ⟨w.heap.size, o, none⟩) (by simp)).trans (by go_simp)
  have HB2 := hide (bl_trans (bl_alloc (bl_refl w) _) hb2)
  have hn : w.heap.size + 1 ≤ (w.alloc (.cells #[.int .i64 0, .string ⟨#[]⟩, .bool false, .slice none 0 0, .int .i64 0, .int .i64 0, .bool false, .slice none 0 0] 25)).heap.size := by simp
  have HKS := hide hks
  have HFV := hide (hfv.mono hn)
  have HFL := hide (fun x hx => off_new (hrl x hx).1 (Nat.le_refl _))
  have HRL := hide (fun x hx => rx_below (hrl x hx).1 HB2.out)
  have HEL := hide hel
  have HFN := hide (fun x hx => (hrl x hx).2)
  have hsz : w.heap.size < w2.heap.size := by have := hb2.size; simp at this; omega
  have hlen : L.length = (flK 1 l).length := by rw [← hel, List.length_map]
  clear hb2 hks hfv hrl hel hn
  by_cases hl0 : L.length = 0
  · have g0 : ((L.length : Int) == 0) = true := beq_iff_eq.2 (by omega)
    have HX := hide (show altX (flK 1 l) = kdX 0 [] from if_pos (by omega))
    clear hlen
    go_wp2
    refine bodyPost_ret (v := .agg #[.int .i64 0, .string ⟨#[]⟩, .bool false, .slice none 0 0, .int .i64 0, .int .i64 0, .bool false, .slice none 0 0]) ?_ rfl ⟨Rt.mk 0 ⟨#[]⟩ false (.slice none 0 0) [] 0 0 false (.slice none 0 0) [], rfl, ?_, ?_, ?_, ?_⟩
    · rw [results_cell1 rfl]
      go_simp
    · exact bl8 HB2.out (Nat.le_refl _) _ _ _ _ _ _ _ _ _ _ _ _ _ _ _ _
    · exact .mk _ (.inl ⟨rfl, rfl⟩) (.inl ⟨rfl, rfl⟩) (fun i hi => absurd hi (Nat.not_lt_zero _))
    · rw [HX.out, er_eq]; rfl
    · exact .mk _ (frv_nil _) (frv_nil _) (fun x hx => by cases hx)
  have g0 : ((L.length : Int) == 0) = false := beq_eq_false_iff_ne.2 (by omega)
  by_cases hl1 : L.length = 1
  · have g1 : ((L.length : Int) == 1) = true := beq_iff_eq.2 (by omega)
    have HX := hide (show altX (flK 1 l) = (flK 1 l).headD (kdX 0 []) from (if_neg (by omega)).trans (if_pos (by omega)))
    obtain ⟨b1, o1, c1', hv1, hc1, hm1, hlb1, hcell1⟩ := ksat_8 HKS.out (by omega)
    injection hv1 with hv1 _ hv1c
    subst hv1 hv1c
    unfold maxLen at hm1
    obtain ⟨q0, q1, q2, q3, q4, q5, q6, q7⟩ := hcell1 0 (by omega)
    have hmem : L[0] ∈ L := List.getElem_mem _
    have hxp := HRL.out _ hmem
    have hfp := HFL.out _ hmem
    have hfn := HFN.out _ hmem
    have hE : er L[0] = (flK 1 l).headD (kdX 0 []) := by
      have := HEL.out
      rw [← this]
      cases L with
      | nil => simp at hl1
      | cons a r => rfl
    obtain ⟨p, hp⟩ : ∃ p, L[0] = p := ⟨_, rfl⟩
    rw [hp] at q0 q1 q2 q3 q4 q5 q6 q7 hxp hfp hE hfn
    obtain ⟨pA, pc, hprv⟩ := rwat_len hxp.rows
    obtain ⟨pB, pd, hpkv⟩ := ksat_len hxp.ks
    have hv : p.v = .agg #[.int .i64 p.k, .string p.ch, .bool p.nt, .slice pA p.rows.length pc, .int .i64 p.mi, .int .i64 p.ma, .bool p.lz, .slice pB p.kids.length pd] := by unfold Rt.v Rt.cs; rw [hprv, hpkv]
    rw [hprv] at q3
    rw [hpkv] at q7
    simp only [Nat.zero_mul, Nat.add_zero] at q0 q1 q2 q3 q4 q5 q6 q7
    have HXP := hide hxp
    have HFP := hide hfp
    have HFNP := hide hfn
    have HE := hide hE
    have HV := hide hv
    have i2 : (0 : Int) < (L.length : Int) := by omega
    clear hxp hfp hfn hE hprv hpkv hp hmem hcell1 hv hlen
    go_wp2
    refine bodyPost_ret (v := .agg #[.int .i64 p.k, .string p.ch, .bool p.nt, .slice pA p.rows.length pc, .int .i64 p.mi, .int .i64 p.ma, .bool p.lz, .slice pB p.kids.length pd]) ?_ rfl ⟨p, by rw [HV.out], ?_, ?_, ?_, ?_⟩
    · rw [results_cell1 rfl]
      go_simp
    · exact bl8 HB2.out (Nat.le_refl _) _ _ _ _ _ _ _ _ _ _ _ _ _ _ _ _
    · exact rx_off HXP.out HFP.out (grown8 _ _ _ _ _ _ _ _ _ _ _ _ _ _ _ _ _)
    · rw [HE.out, HX.out]
    · exact HFNP.out
  · have g1 : ((L.length : Int) == 1) = false := beq_eq_false_iff_ne.2 (by omega)
    have HX := hide (show altX (flK 1 l) = kdX 1 (flK 1 l) from (if_neg (by omega)).trans (if_neg (by omega)))
    clear hlen
    go_wp2
    refine bodyPost_ret (v := .agg #[.int .i64 1, .string ⟨#[]⟩, .bool false, .slice none 0 0, .int .i64 0, .int .i64 0, .bool false, .slice A L.length c]) ?_ rfl ⟨Rt.mk 1 ⟨#[]⟩ false (.slice none 0 0) [] 0 0 false (.slice A L.length c) L, rfl, ?_, ?_, ?_, ?_⟩
    · rw [results_cell1 rfl]
      go_simp
    · exact bl8 HB2.out (Nat.le_refl _) _ _ _ _ _ _ _ _ _ _ _ _ _ _ _ _
    · exact .mk _ (.inl ⟨rfl, rfl⟩) (ksat_kept HKS.out HFV.out (kept8 _ (Nat.lt_succ_self _) _ _ _ _ _ _ _ _ _ _ _ _ _ _ _ _)) (fun i hi => rx_off (HRL.out _ (List.getElem_mem hi)) (HFL.out _ (List.getElem_mem hi)) (grown8 _ _ _ _ _ _ _ _ _ _ _ _ _ _ _ _ _))
    · rw [HX.out, er_eq]
      show kdX 1 (L.map er) = _
      rw [HEL.out]
    · exact .mk _ (frv_nil _) (HFV.out.mono (Nat.le_trans HNN.out (Nat.le_succ _))) (fun x hx => HFN.out x hx)
end
section
open Go.ChangeShapes Go.WideShapes Go.ChangeAt Go.RowKit
open SetM
attribute [local go_sem ↓] Go.wp_at_zero Go.wp_at_succ
set_option maxRecDepth 100000
set_option linter.unusedVariables false
attribute [local go_sem] later_cell later_frozen
/-- A sign and the character behind it, as the walk asks. -/
inductive Nxt (zs : List ByteArray) (r : List UInt8) (y : UInt8) : Prop
  | no (h : (hdC r == [y]) = false) : Nxt zs r y
  | last (k : Nat) (h : (hdC r == [y]) = true) (hk : zs.length - (splitL r).length = k) (hn : zs.length = k + 1) (h2 : tlC r = []) : Nxt zs r y
  | at (k : Nat) (h : (hdC r == [y]) = true) (hk : zs.length - (splitL r).length = k) (hn : k + 1 < zs.length) (hD : (zs[k + 1]'hn).data.toList = hdC (tlC r)) (h2 : tlC r ≠ []) : Nxt zs r y
theorem nxt_of {zs : List ByteArray} {r : List UInt8} {y : UInt8} (hs : splitL r <:+ zs.map (fun z => z.data.toList)) : Nxt zs r y := by
  rcases h1 : (hdC r == [y]) with _ | _
  · exact .no h1
  · have hr : r ≠ [] := by rintro rfl; exact absurd (beq_iff_eq.1 h1) (by simp [hdC])
    have hs0 := hs
    rw [split_cons hr] at hs0
    have hle := hs0.length_le
    rw [List.length_map, List.length_cons] at hle
    by_cases h2 : tlC r = []
    · rw [h2, split_nil, List.length_nil] at hle
      exact .last (zs.length - 1) h1 (by rw [split_cons hr, h2, split_nil]; rfl) (by omega) h2
    · have hs := tl_split hs
      rw [split_cons h2] at hs hle
      rw [List.length_cons] at hle
      have hk1 : zs.length - (splitL r).length + 1 < zs.length := by rw [split_cons hr, split_cons h2, List.length_cons, List.length_cons]; omega
      obtain ⟨pre, hp⟩ := hs
      have e7 : (zs.map (fun z => z.data.toList))[zs.length - (splitL r).length + 1]? = some (hdC (tlC r)) := by
        have hpl : pre.length + ((splitL (tlC (tlC r))).length + 1) = zs.length := by
          have := congrArg List.length hp
          rw [List.length_append, List.length_cons, List.length_map] at this; exact this
        rw [split_cons hr, split_cons h2, List.length_cons, List.length_cons, ← hp, List.getElem?_append_right (by omega), show zs.length - ((splitL (tlC (tlC r))).length + 1 + 1) + 1 - pre.length = 0 by omega]; rfl
      rw [List.getElem?_map, List.getElem?_eq_getElem hk1] at e7
      exact .at _ h1 rfl hk1 (by simpa using e7) h2
theorem atom_k {deep : Bool} {pat : List UInt8 → Res} {l r : List UInt8} {x : Rt} (h98 : hdC l = [92] → hdC (tlC l) ≠ [98] ∧ hdC (tlC l) ≠ [66]) (h : atomP deep pat l = .ok x r) : ¬ (x.k = 10 ∨ x.k = 11) := by
  have hE : ∀ (k : Int) (q : Res), k = 5 ∨ k = 6 → grpE k q = .ok x r → ¬ (x.k = 10 ∨ x.k = 11) := by
    intro k q hk h
    unfold grpE at h
    split at h
    · cases h
    · cases h
    · split at h
      · injection h with h _
        subst h
        show ¬ (k = 10 ∨ k = 11)
        omega
      · cases h
  unfold atomP at h
  split at h
  · injection h with h _; subst h; show ¬ ((3 : Int) = 10 ∨ (3 : Int) = 11); decide
  split at h
  · unfold grpP at h
    split at h
    · cases h
    split at h
    · split at h
      · exact hE _ _ (.inr rfl) h
      · cases h
    · exact hE _ _ (.inl rfl) h
  split at h
  · unfold classP at h
    split at h
    · cases h
    · injection h with h _; subst h; show ¬ ((4 : Int) = 10 ∨ (4 : Int) = 11); decide
  split at h
  · rename_i h92
    obtain ⟨a1, a2⟩ := h98 (by simpa using h92)
    unfold bakP at h
    rw [if_neg (fun e => a1 (beq_iff_eq.1 e)), if_neg (fun e => a2 (beq_iff_eq.1 e))] at h
    have h4 : ∀ (nt : Bool) (R : List Rw), ¬ ((setX nt R).k = 10 ∨ (setX nt R).k = 11) := fun nt R => by show ¬ ((4 : Int) = 10 ∨ (4 : Int) = 11); decide
    split at h
    · injection h with h _; subst h; exact h4 _ _
    split at h
    · injection h with h _; subst h; exact h4 _ _
    split at h
    · injection h with h _; subst h; exact h4 _ _
    split at h
    · injection h with h _; subst h; exact h4 _ _
    split at h
    · injection h with h _; subst h; exact h4 _ _
    split at h
    · injection h with h _; subst h; exact h4 _ _
    split at h
    · cases h
    · injection h with h _; subst h; show ¬ ((2 : Int) = 10 ∨ (2 : Int) = 11); decide
  split at h
  · cases h
  split at h
  · cases h
  split at h
  · cases h
  split at h
  · cases h
  · injection h with h _; subst h; show ¬ ((2 : Int) = 10 ∨ (2 : Int) = 11); decide
theorem rtimes_any {w : World} {b N : Nat} {A : Option Addr} {c : Nat} {zs : List ByteArray} {l : List UInt8} (h : Rp w b A c zs l) (hbN : b < N) (hN : N ≤ w.heap.size) (t : Rt) (ht : RxAt w t) (hf : Fr N t) (res : Res) (ho : qntP (er t) l = res) :
    Calls Try.prog 65 #[.pointer (some ⟨b, 0, none⟩), t.v] w (RrPostN N w b zs res) := by
  rcases h123 : (hdC l == [123]) with _ | _
  · exact rtimes_one h hbN hN t ht hf h123 res ho
  · exact rtimes_brace h hbN hN t ht hf h123 res ho
theorem rr_step2 {w W : World} {b : Nat} {A : Option Addr} {c : Nat} {zs : List ByteArray} {l : List UInt8} (h : Rp w b A c zs l) (h0 : l ≠ []) (h1 : tlC l ≠ []) (hb : Below w.heap.size w W) (k : Nat) (hk : zs.length - (splitL l).length = k) :
    Rv w (W.setCell ⟨b, 1, none⟩ (.int .i64 ((k : Int) + 2))) b zs (tlC (tlC l)) := by
  have hs := h.suf
  have hle := hs.length_le
  rw [List.length_map, split_cons h0, split_cons h1] at hle
  simp only [List.length_cons] at hle
  have hk2 : zs.length - (splitL (tlC (tlC l))).length = k + 2 := by rw [← hk, split_cons h0, split_cons h1]; simp only [List.length_cons]; omega
  refine ⟨?_, tl_split (tl_split hs)⟩
  rw [hk2]
  exact (mvd_bl hb h.pos).set (k + 2)
set_option maxHeartbeats 16000000 in
theorem rterm_any {w : World} {b : Nat} {A : Option Addr} {c : Nat} {zs : List ByteArray} {l : List UInt8} (h : Rp w b A c zs l) (hl : l.length ≤ 256) (hne : endB l = false) (hpr : ∀ z ∈ zs, properB z.data.toList = true)
    (d : Nat) (hd : d ≤ 16) (pat : List UInt8 → Res) (hgd : d < 16 → ∀ l, Gd 0 2 l (pat l))
    (HPAT : d < 16 → ∀ W l', l'.length ≤ 256 → Rp W b A c zs l' → Calls Try.prog 46 #[.pointer (some ⟨b, 0, none⟩), .int .i64 ((d : Int) + 1)] W (RrPost W b zs (pat l')))
    (res : Res) (ho : termP (d == 16) pat l = res) : Calls Try.prog 57 #[.pointer (some ⟨b, 0, none⟩), .int .i64 (d : Int)] w (RrPost w b zs res) := by
  have hbw := h.lt
  have HS := hide h
  have HNB := hide (show w.heap.size ≠ b by omega)
  have HP0 := hide (h.bl (bl_alloc (bl_refl w) (.cells #[.int .i64 0, .string ⟨#[]⟩, .bool false, .slice none 0 0, .int .i64 0, .int .i64 0, .bool false, .slice none 0 0] 25)))
  have HSELF := hide (HS.out.self (bl_alloc (bl_refl w) (.cells #[.int .i64 0, .string ⟨#[]⟩, .bool false, .slice none 0 0, .int .i64 0, .int .i64 0, .bool false, .slice none 0 0] 25)))
  have Z0 := hide (show Cl (w.alloc (.cells #[.int .i64 0, .string ⟨#[]⟩, .bool false, .slice none 0 0, .int .i64 0, .int .i64 0, .bool false, .slice none 0 0] 25)) w.heap.size [.int .i64 0, .string ⟨#[]⟩, .bool false, .slice none 0 0, .int .i64 0, .int .i64 0, .bool false, .slice none 0 0] from cl_alloc w [.int .i64 0, .string ⟨#[]⟩, .bool false, .slice none 0 0, .int .i64 0, .int .i64 0, .bool false, .slice none 0 0] _)
  have hl0 : l ≠ [] := by rintro rfl; cases hne
  have hd16 : (d == 16) = false → d < 16 := fun h => by
    have h2 : d ≠ 16 := beq_eq_false_iff_ne.1 h
    omega
  have hgt : Gd 1 0 l (atomP (d == 16) pat l) := atom_gd (fun h => hgd (hd16 h)) l hl0
  have HATOM := hide (fun (h98 : hdC l = [92] → hdC (tlC l) ≠ [98] ∧ hdC (tlC l) ≠ [66]) W (hp : Rp W b A c zs l) => ratom_any hp hl hne hpr h98 d hd pat hgd HPAT _ rfl)
  have HAK := hide (fun (h98 : hdC l = [92] → hdC (tlC l) ≠ [98] ∧ hdC (tlC l) ≠ [66]) x r (h : atomP (d == 16) pat l = .ok x r) => atom_k h98 h)
  unfold termP at ho
  have HCASE := nxt_of (y := 92) h.suf
  have hzs := h.sz
  clear h hl hne hpr hd hgd HPAT hbw hd16
  rcases hq0 : (hdC l == [94]) with _ | _
  rotate_left
  · rw [hq0, if_pos rfl] at ho
    subst ho
    have HTT := hide (fun W (hp : Rp W b A c zs l) => rr_take hp ⟨#[94]⟩ (by decide) true hq0)
    simp only [if_true] at HTT
    clear hq0 HCASE
    clear hgt HATOM HAK hl0 hzs
    go_enter Try.func57, Try.ntmps57
    go_wp2_with fail
    refine (HTT.out _ HP0.out).mono ?_
    rintro e w2 ⟨rfl, hm⟩
    have M2 := hide hm
    have M2w := hide (HSELF.out.trans M2.out)
    clear hm
    obtain ⟨z0, z1, z2, z3, z4, z5, z6, z7⟩ := (Z0.out.mv M2.out.1 HNB.out).eight
    have hf1 := (Z0.out.mv M2.out.1 HNB.out).f
    go_wp2
    refine bodyPost_ret (v := .tuple #[.agg #[.int .i64 8, .string ⟨#[]⟩, .bool false, .slice none 0 0, .int .i64 0, .int .i64 0, .bool false, .slice none 0 0], .int .i64 0]) ?_ rfl ⟨kdX 8 [], rfl, (rv8 (M2w.out) HNB.out (Nat.le_refl _) _ _ _ _ _ _ _ _ _ _ _ _ _ _ _ _), rx_leaf _ _ rfl rfl rfl rfl, fr_leaf _ _ rfl rfl rfl, rfl⟩
    rw [results_cell2 rfl]
    go_simp
  rw [hq0, if_neg (by decide)] at ho
  have HT0 := hide (fun W (hp : Rp W b A c zs l) => rr_take hp ⟨#[94]⟩ (by decide) false hq0)
  clear hq0
  rcases hq1 : (hdC l == [36]) with _ | _
  rotate_left
  · rw [hq1, if_pos rfl] at ho
    subst ho
    have HTT := hide (fun W (hp : Rp W b A c zs l) => rr_take hp ⟨#[36]⟩ (by decide) true hq1)
    simp only [if_true] at HTT
    clear hq1 HCASE
    clear hgt HATOM HAK hl0 hzs
    go_enter Try.func57, Try.ntmps57
    go_wp2_with fail
    refine (HT0.out _ HP0.out).mono ?_
    rintro e u0 ⟨rfl, hm⟩
    have N0 : Hid (Rv (w.alloc (.cells #[.int .i64 0, .string ⟨#[]⟩, .bool false, .slice none 0 0, .int .i64 0, .int .i64 0, .bool false, .slice none 0 0] 25)) u0 b zs l) := hide hm
    clear hm
    go_wp2_with fail
    refine (HTT.out _ (N0.out.pl HP0.out)).mono ?_
    rintro e w2 ⟨rfl, hm⟩
    have M2 := hide (N0.out.trans hm)
    have M2w := hide (HSELF.out.trans M2.out)
    clear hm
    obtain ⟨z0, z1, z2, z3, z4, z5, z6, z7⟩ := (Z0.out.mv M2.out.1 HNB.out).eight
    have hf1 := (Z0.out.mv M2.out.1 HNB.out).f
    go_wp2
    refine bodyPost_ret (v := .tuple #[.agg #[.int .i64 9, .string ⟨#[]⟩, .bool false, .slice none 0 0, .int .i64 0, .int .i64 0, .bool false, .slice none 0 0], .int .i64 0]) ?_ rfl ⟨kdX 9 [], rfl, (rv8 (M2w.out) HNB.out (Nat.le_refl _) _ _ _ _ _ _ _ _ _ _ _ _ _ _ _ _), rx_leaf _ _ rfl rfl rfl rfl, fr_leaf _ _ rfl rfl rfl, rfl⟩
    rw [results_cell2 rfl]
    go_simp
  rw [hq1, if_neg (by decide)] at ho
  have HT1 := hide (fun W (hp : Rp W b A c zs l) => rr_take hp ⟨#[36]⟩ (by decide) false hq1)
  clear hq1
  obtain ⟨C, hC⟩ : ∃ C, bsC (hdC l) = C := ⟨_, rfl⟩
  have hCd : C.data.toList = hdC l := by rw [← hC, bsC_data]
  have HSE0 := hide (fun W (hp : Rp W b A c zs l) => rr_see hp C hC)
  obtain ⟨N, hN⟩ : ∃ N, zs.length = N := ⟨_, rfl⟩
  clear hC
  rcases HCASE with h92 | ⟨k, h92, hk, hn, h2⟩ | ⟨k, h92, hk, hn, hD, h2⟩
  · obtain ⟨yC, zC⟩ := lit_eq C #[92] false (by rw [hCd]; exact h92)
    have H98 : hdC l = [92] → hdC (tlC l) ≠ [98] ∧ hdC (tlC l) ≠ [66] := fun e => by rw [e] at h92; exact absurd h92 (by decide)
    have HAT := hide (HATOM.out H98)
    have HAK9 := hide (HAK.out H98)
    obtain ⟨q, hq⟩ : ∃ q, atomP (d == 16) pat l = q := ⟨_, rfl⟩
    rw [hq] at ho hgt HAT HAK9
    clear hq HATOM HAK
    clear hCd h92 H98 hl0 hzs
    go_enter Try.func57, Try.ntmps57
    go_wp2_with fail
    refine (HT0.out _ HP0.out).mono ?_
    rintro e u0 ⟨rfl, hm⟩
    have N0 : Hid (Rv (w.alloc (.cells #[.int .i64 0, .string ⟨#[]⟩, .bool false, .slice none 0 0, .int .i64 0, .int .i64 0, .bool false, .slice none 0 0] 25)) u0 b zs l) := hide hm
    clear hm
    go_wp2_with fail
    refine (HT1.out _ (N0.out.pl HP0.out)).mono ?_
    rintro e u1 ⟨rfl, hm⟩
    have N1 : Hid (Rv (w.alloc (.cells #[.int .i64 0, .string ⟨#[]⟩, .bool false, .slice none 0 0, .int .i64 0, .int .i64 0, .bool false, .slice none 0 0] 25)) u1 b zs l) := hide (N0.out.trans hm)
    clear hm
    have HP5 := hide (N1.out.pl HP0.out)
    have p1 := HP5.out.row
    rw [hN] at p1
    have hbw := HP5.out.lt
    have HSE := hide (fun (u : Later u1) => HSE0.out u.now (HP5.out.bl u.below))
    go_wp2_with fail
    refine wp_region_later (by kernel_rfl) (by kernel_rfl) ?_
    repeat (go_big_quiet_step (first | (go_at_call 56; exact later_call (HSE.out _)) | exact rfl))
    refine wpQuiet_nil ?_
    rintro w5 ⟨⟨_, hb5⟩, rfl⟩
    have HP8 := hide (HP5.out.bl hb5)
    replace p1 := cell_later hb5 p1
    replace hbw := HP8.out.lt
    have HSE8 := hide (fun (u : Later w5) => HSE0.out u.now (HP8.out.bl u.below))
    go_wp2_with fail
    refine wp_region_later (by kernel_rfl) (by kernel_rfl) ?_
    repeat (go_big_quiet_step (first | (go_at_call 56; exact later_call (HSE8.out _)) | exact rfl))
    refine wpQuiet_nil ?_
    rintro w8 ⟨⟨_, hb8⟩, rfl⟩
    have M8a : Hid (Rv (w.alloc (.cells #[.int .i64 0, .string ⟨#[]⟩, .bool false, .slice none 0 0, .int .i64 0, .int .i64 0, .bool false, .slice none 0 0] 25)) w8 b zs l) := hide ((N1.out.bl hb5).bl hb8)
    have hbs := hide (Nat.le_trans hb5.size hb8.size)
    clear  hb5 hb8 hbw p1
    have M8w := hide (HSELF.out.trans M8a.out)
    have Z8 := hide (Z0.out.mv M8a.out.1 HNB.out)
    go_wp2_with fail
    refine (HAT.out _ (M8a.out.pl HP0.out)).mono ?_
    intro e w3 hp
    rcases q with _ | n | ⟨x, r⟩
    · exact hp.elim
    · simp only at ho
      subst ho
      obtain ⟨rfl, k3, hm3⟩ := hp
      have HMM := hide ((M8w.out.1.trans hm3).bl (bl_alloc (bl_refl w3) (.cells #[.int .i64 0, .string ⟨#[]⟩, .bool false, .slice none 0 0, .int .i64 0, .int .i64 0, .bool false, .slice none 0 0] 25)))
      rw [show rt0.v = .agg #[.int .i64 0, .string ⟨#[]⟩, .bool false, .slice none 0 0, .int .i64 0, .int .i64 0, .bool false, .slice none 0 0] from rfl]
      have Z3 := hide ((Z8.out.mv hm3 HNB.out).bl (bl_alloc (bl_refl w3) (.cells #[.int .i64 0, .string ⟨#[]⟩, .bool false, .slice none 0 0, .int .i64 0, .int .i64 0, .bool false, .slice none 0 0] 25)))
      clear hm3 HAK9
      obtain ⟨z0, z1, z2, z3, z4, z5, z6, z7⟩ := (Z3.out).eight
      have hf1 := (Z3.out).f
      rcases hgt with rfl | rfl
      · go_wp2
        refine bodyPost_ret (v := .tuple #[.agg #[.int .i64 0, .string ⟨#[]⟩, .bool false, .slice none 0 0, .int .i64 0, .int .i64 0, .bool false, .slice none 0 0], .int .i64 8]) ?_ rfl ⟨rfl, _, (mvd8 (HMM.out) HNB.out (Nat.le_refl _) _ _ _ _ _ _ _ _ _ _ _ _ _ _ _ _)⟩
        rw [results_cell2 rfl]
        go_simp
      · go_wp2
        refine bodyPost_ret (v := .tuple #[.agg #[.int .i64 0, .string ⟨#[]⟩, .bool false, .slice none 0 0, .int .i64 0, .int .i64 0, .bool false, .slice none 0 0], .int .i64 10]) ?_ rfl ⟨rfl, _, (mvd8 (HMM.out) HNB.out (Nat.le_refl _) _ _ _ _ _ _ _ _ _ _ _ _ _ _ _ _)⟩
        rw [results_cell2 rfl]
        go_simp
    · simp only at ho
      rw [if_neg (HAK9.out x r rfl)] at ho
      obtain ⟨t, rfl, hm3, hrx, hfr, her⟩ := hp
      subst her
      have M3w := hide (M8w.out.trans hm3)
      have HBN := hide (show b < w8.heap.size from M8a.out.1.lt)
      have HSZ := hide hm3.1.grown.size
      have HTI := hide (fun (W : World) (hb : Below w3.heap.size w3 W) => rtimes_any ((M3w.out.pl HS.out).bl hb) HBN.out (Nat.le_trans HSZ.out hb.size) t (rx_below hrx hb) hfr res ho)
      obtain ⟨tA, tc, htrv⟩ := rwat_len hrx.rows
      obtain ⟨tB, td, htkv⟩ := ksat_len hrx.ks
      have HTV := hide (show t.v = .agg #[.int .i64 t.k, .string t.ch, .bool t.nt, .slice tA t.rows.length tc, .int .i64 t.mi, .int .i64 t.ma, .bool t.lz, .slice tB t.kids.length td] by unfold Rt.v Rt.cs; rw [htrv, htkv])
      rw [HTV.out]
      rw [HTV.out] at HTI
      have M4w := hide (M3w.out.bl (bl_alloc (bl_refl w3) (.cells #[.int .i64 t.k, .string t.ch, .bool t.nt, .slice tA t.rows.length tc, .int .i64 t.mi, .int .i64 t.ma, .bool t.lz, .slice tB t.kids.length td] 25)))
      have Z4 := hide ((Z8.out.mv hm3.1 HNB.out).bl (bl_alloc (bl_refl w3) (.cells #[.int .i64 t.k, .string t.ch, .bool t.nt, .slice tA t.rows.length tc, .int .i64 t.mi, .int .i64 t.ma, .bool t.lz, .slice tB t.kids.length td] 25)))
      have K4 := hide (show Cl (w3.alloc (.cells #[.int .i64 t.k, .string t.ch, .bool t.nt, .slice tA t.rows.length tc, .int .i64 t.mi, .int .i64 t.ma, .bool t.lz, .slice tB t.kids.length td] 25)) w3.heap.size [.int .i64 t.k, .string t.ch, .bool t.nt, .slice tA t.rows.length tc, .int .i64 t.mi, .int .i64 t.ma, .bool t.lz, .slice tB t.kids.length td] from cl_alloc w3 [.int .i64 t.k, .string t.ch, .bool t.nt, .slice tA t.rows.length tc, .int .i64 t.mi, .int .i64 t.ma, .bool t.lz, .slice tB t.kids.length td] _)
      clear hm3 hrx hfr htrv htkv ho HAK9 hgt
      obtain ⟨k0, k1, k2, k3, k4, k5, k6, k7⟩ := K4.out.eight
      go_wp2_with fail
      refine (HTI.out _ (bl_alloc (bl_refl w3) _)).mono ?_
      clear k0 k1 k2 k3 k4 k5 k6 k7
      intro e w6 hp
      rcases res with _ | n2 | ⟨x2, r2⟩
      · exact hp.elim
      · obtain ⟨rfl, k6, hm6⟩ := hp
        have HMM := hide (M4w.out.1.trans hm6)
        obtain ⟨z0, z1, z2, z3, z4, z5, z6, z7⟩ := (Z4.out.mv hm6 HNB.out).eight
        have hf1 := (Z4.out.mv hm6 HNB.out).f
        rw [show rt0.v = .agg #[.int .i64 0, .string ⟨#[]⟩, .bool false, .slice none 0 0, .int .i64 0, .int .i64 0, .bool false, .slice none 0 0] from rfl]
        clear hm6
        go_wp2
        refine bodyPost_ret (v := .tuple #[.agg #[.int .i64 0, .string ⟨#[]⟩, .bool false, .slice none 0 0, .int .i64 0, .int .i64 0, .bool false, .slice none 0 0], .int .i64 n2]) ?_ rfl ⟨rfl, _, (mvd8 (HMM.out) HNB.out (Nat.le_refl _) _ _ _ _ _ _ _ _ _ _ _ _ _ _ _ _)⟩
        rw [results_cell2 rfl]
        go_simp
      · obtain ⟨u, rfl, hm6, hrx2, hfr2, her2⟩ := hp
        subst her2
        have HMM := hide (M4w.out.trans hm6)
        obtain ⟨z0, z1, z2, z3, z4, z5, z6, z7⟩ := (Z4.out.mv hm6.1 HNB.out).eight
        have hf1 := (Z4.out.mv hm6.1 HNB.out).f
        obtain ⟨uA, uc, hurv⟩ := rwat_len hrx2.rows
        obtain ⟨uB, ud, hukv⟩ := ksat_len hrx2.ks
        have HUV := hide (show u.v = .agg #[.int .i64 u.k, .string u.ch, .bool u.nt, .slice uA u.rows.length uc, .int .i64 u.mi, .int .i64 u.ma, .bool u.lz, .slice uB u.kids.length ud] by unfold Rt.v Rt.cs; rw [hurv, hukv])
        rw [HUV.out]
        have HRU := hide hrx2
        have HFU := hide hfr2
        have HWL := hide (show w.heap.size + 1 ≤ w8.heap.size by have := M8w.out.1.grown.size; have := N1.out.1.grown.size; have := hbs.out; simp at *; omega)
        clear hm6 hrx2 hfr2 hurv hukv
        go_wp2
        refine bodyPost_ret (v := .tuple #[.agg #[.int .i64 u.k, .string u.ch, .bool u.nt, .slice uA u.rows.length uc, .int .i64 u.mi, .int .i64 u.ma, .bool u.lz, .slice uB u.kids.length ud], .int .i64 0]) ?_ rfl ⟨u, by rw [HUV.out], (rv8 (HMM.out) HNB.out (Nat.le_refl _) _ _ _ _ _ _ _ _ _ _ _ _ _ _ _ _), rx_kept HRU.out (HFU.out.mono HWL.out) (kept8 _ (Nat.lt_succ_self _) _ _ _ _ _ _ _ _ _ _ _ _ _ _ _ _), HFU.out.mono (Nat.le_of_succ_le HWL.out), rfl⟩
        rw [results_cell2 rfl]
        go_simp
  · obtain ⟨yC, zC⟩ := lit_eq C #[92] true (by rw [hCd]; exact h92)
    have H98 : hdC l = [92] → hdC (tlC l) ≠ [98] ∧ hdC (tlC l) ≠ [66] := fun _ => by rw [h2]; exact ⟨by decide, by decide⟩
    have HAT := hide (HATOM.out H98)
    have HAK9 := hide (HAK.out H98)
    obtain ⟨q, hq⟩ : ∃ q, atomP (d == 16) pat l = q := ⟨_, rfl⟩
    rw [hq] at ho hgt HAT HAK9
    clear hq HATOM HAK
    rw [hN] at hn hzs
    have ew : IntKind.i64.wrap ((k : Int) + 1) = (k : Int) + 1 := by rw [IntKind.wrap_i64]; omega
    have dd : decide ((k : Int) + 1 < (N : Int)) = false := decide_eq_false (by omega)
    clear hCd h92 H98 hl0 hzs hn h2
    go_enter Try.func57, Try.ntmps57
    go_wp2_with fail
    refine (HT0.out _ HP0.out).mono ?_
    rintro e u0 ⟨rfl, hm⟩
    have N0 : Hid (Rv (w.alloc (.cells #[.int .i64 0, .string ⟨#[]⟩, .bool false, .slice none 0 0, .int .i64 0, .int .i64 0, .bool false, .slice none 0 0] 25)) u0 b zs l) := hide hm
    clear hm
    go_wp2_with fail
    refine (HT1.out _ (N0.out.pl HP0.out)).mono ?_
    rintro e u1 ⟨rfl, hm⟩
    have N1 : Hid (Rv (w.alloc (.cells #[.int .i64 0, .string ⟨#[]⟩, .bool false, .slice none 0 0, .int .i64 0, .int .i64 0, .bool false, .slice none 0 0] 25)) u1 b zs l) := hide (N0.out.trans hm)
    clear hm
    have HP5 := hide (N1.out.pl HP0.out)
    have p1 := HP5.out.row
    rw [hN] at p1
    have hbw := HP5.out.lt
    have p2 := HP5.out.pos
    rw [hN] at hk p2
    rw [hk] at p2
    have HSE := hide (fun (u : Later u1) => HSE0.out u.now (HP5.out.bl u.below))
    go_wp2_with fail
    refine wp_region_later (by kernel_rfl) (by kernel_rfl) ?_
    repeat (go_big_quiet_step (first | (go_at_call 56; exact later_call (HSE.out _)) | exact rfl))
    refine wpQuiet_nil ?_
    rintro w5 ⟨⟨_, hb5⟩, rfl⟩
    have HP8 := hide (HP5.out.bl hb5)
    replace p1 := cell_later hb5 p1
    replace hbw := HP8.out.lt
    replace p2 := cell_later hb5 p2
    have HSE8 := hide (fun (u : Later w5) => HSE0.out u.now (HP8.out.bl u.below))
    go_wp2_with fail
    refine wp_region_later (by kernel_rfl) (by kernel_rfl) ?_
    repeat (go_big_quiet_step (first | (go_at_call 56; exact later_call (HSE8.out _)) | exact rfl))
    refine wpQuiet_nil ?_
    rintro w8 ⟨⟨_, hb8⟩, rfl⟩
    have M8a : Hid (Rv (w.alloc (.cells #[.int .i64 0, .string ⟨#[]⟩, .bool false, .slice none 0 0, .int .i64 0, .int .i64 0, .bool false, .slice none 0 0] 25)) w8 b zs l) := hide ((N1.out.bl hb5).bl hb8)
    have hbs := hide (Nat.le_trans hb5.size hb8.size)
    clear p2 ew dd hk hb5 hb8 hbw p1
    have M8w := hide (HSELF.out.trans M8a.out)
    have Z8 := hide (Z0.out.mv M8a.out.1 HNB.out)
    go_wp2_with fail
    refine (HAT.out _ (M8a.out.pl HP0.out)).mono ?_
    intro e w3 hp
    rcases q with _ | n | ⟨x, r⟩
    · exact hp.elim
    · simp only at ho
      subst ho
      obtain ⟨rfl, k3, hm3⟩ := hp
      have HMM := hide ((M8w.out.1.trans hm3).bl (bl_alloc (bl_refl w3) (.cells #[.int .i64 0, .string ⟨#[]⟩, .bool false, .slice none 0 0, .int .i64 0, .int .i64 0, .bool false, .slice none 0 0] 25)))
      rw [show rt0.v = .agg #[.int .i64 0, .string ⟨#[]⟩, .bool false, .slice none 0 0, .int .i64 0, .int .i64 0, .bool false, .slice none 0 0] from rfl]
      have Z3 := hide ((Z8.out.mv hm3 HNB.out).bl (bl_alloc (bl_refl w3) (.cells #[.int .i64 0, .string ⟨#[]⟩, .bool false, .slice none 0 0, .int .i64 0, .int .i64 0, .bool false, .slice none 0 0] 25)))
      clear hm3 HAK9
      obtain ⟨z0, z1, z2, z3, z4, z5, z6, z7⟩ := (Z3.out).eight
      have hf1 := (Z3.out).f
      rcases hgt with rfl | rfl
      · go_wp2
        refine bodyPost_ret (v := .tuple #[.agg #[.int .i64 0, .string ⟨#[]⟩, .bool false, .slice none 0 0, .int .i64 0, .int .i64 0, .bool false, .slice none 0 0], .int .i64 8]) ?_ rfl ⟨rfl, _, (mvd8 (HMM.out) HNB.out (Nat.le_refl _) _ _ _ _ _ _ _ _ _ _ _ _ _ _ _ _)⟩
        rw [results_cell2 rfl]
        go_simp
      · go_wp2
        refine bodyPost_ret (v := .tuple #[.agg #[.int .i64 0, .string ⟨#[]⟩, .bool false, .slice none 0 0, .int .i64 0, .int .i64 0, .bool false, .slice none 0 0], .int .i64 10]) ?_ rfl ⟨rfl, _, (mvd8 (HMM.out) HNB.out (Nat.le_refl _) _ _ _ _ _ _ _ _ _ _ _ _ _ _ _ _)⟩
        rw [results_cell2 rfl]
        go_simp
    · simp only at ho
      rw [if_neg (HAK9.out x r rfl)] at ho
      obtain ⟨t, rfl, hm3, hrx, hfr, her⟩ := hp
      subst her
      have M3w := hide (M8w.out.trans hm3)
      have HBN := hide (show b < w8.heap.size from M8a.out.1.lt)
      have HSZ := hide hm3.1.grown.size
      have HTI := hide (fun (W : World) (hb : Below w3.heap.size w3 W) => rtimes_any ((M3w.out.pl HS.out).bl hb) HBN.out (Nat.le_trans HSZ.out hb.size) t (rx_below hrx hb) hfr res ho)
      obtain ⟨tA, tc, htrv⟩ := rwat_len hrx.rows
      obtain ⟨tB, td, htkv⟩ := ksat_len hrx.ks
      have HTV := hide (show t.v = .agg #[.int .i64 t.k, .string t.ch, .bool t.nt, .slice tA t.rows.length tc, .int .i64 t.mi, .int .i64 t.ma, .bool t.lz, .slice tB t.kids.length td] by unfold Rt.v Rt.cs; rw [htrv, htkv])
      rw [HTV.out]
      rw [HTV.out] at HTI
      have M4w := hide (M3w.out.bl (bl_alloc (bl_refl w3) (.cells #[.int .i64 t.k, .string t.ch, .bool t.nt, .slice tA t.rows.length tc, .int .i64 t.mi, .int .i64 t.ma, .bool t.lz, .slice tB t.kids.length td] 25)))
      have Z4 := hide ((Z8.out.mv hm3.1 HNB.out).bl (bl_alloc (bl_refl w3) (.cells #[.int .i64 t.k, .string t.ch, .bool t.nt, .slice tA t.rows.length tc, .int .i64 t.mi, .int .i64 t.ma, .bool t.lz, .slice tB t.kids.length td] 25)))
      have K4 := hide (show Cl (w3.alloc (.cells #[.int .i64 t.k, .string t.ch, .bool t.nt, .slice tA t.rows.length tc, .int .i64 t.mi, .int .i64 t.ma, .bool t.lz, .slice tB t.kids.length td] 25)) w3.heap.size [.int .i64 t.k, .string t.ch, .bool t.nt, .slice tA t.rows.length tc, .int .i64 t.mi, .int .i64 t.ma, .bool t.lz, .slice tB t.kids.length td] from cl_alloc w3 [.int .i64 t.k, .string t.ch, .bool t.nt, .slice tA t.rows.length tc, .int .i64 t.mi, .int .i64 t.ma, .bool t.lz, .slice tB t.kids.length td] _)
      clear hm3 hrx hfr htrv htkv ho HAK9 hgt
      obtain ⟨k0, k1, k2, k3, k4, k5, k6, k7⟩ := K4.out.eight
      go_wp2_with fail
      refine (HTI.out _ (bl_alloc (bl_refl w3) _)).mono ?_
      clear k0 k1 k2 k3 k4 k5 k6 k7
      intro e w6 hp
      rcases res with _ | n2 | ⟨x2, r2⟩
      · exact hp.elim
      · obtain ⟨rfl, k6, hm6⟩ := hp
        have HMM := hide (M4w.out.1.trans hm6)
        obtain ⟨z0, z1, z2, z3, z4, z5, z6, z7⟩ := (Z4.out.mv hm6 HNB.out).eight
        have hf1 := (Z4.out.mv hm6 HNB.out).f
        rw [show rt0.v = .agg #[.int .i64 0, .string ⟨#[]⟩, .bool false, .slice none 0 0, .int .i64 0, .int .i64 0, .bool false, .slice none 0 0] from rfl]
        clear hm6
        go_wp2
        refine bodyPost_ret (v := .tuple #[.agg #[.int .i64 0, .string ⟨#[]⟩, .bool false, .slice none 0 0, .int .i64 0, .int .i64 0, .bool false, .slice none 0 0], .int .i64 n2]) ?_ rfl ⟨rfl, _, (mvd8 (HMM.out) HNB.out (Nat.le_refl _) _ _ _ _ _ _ _ _ _ _ _ _ _ _ _ _)⟩
        rw [results_cell2 rfl]
        go_simp
      · obtain ⟨u, rfl, hm6, hrx2, hfr2, her2⟩ := hp
        subst her2
        have HMM := hide (M4w.out.trans hm6)
        obtain ⟨z0, z1, z2, z3, z4, z5, z6, z7⟩ := (Z4.out.mv hm6.1 HNB.out).eight
        have hf1 := (Z4.out.mv hm6.1 HNB.out).f
        obtain ⟨uA, uc, hurv⟩ := rwat_len hrx2.rows
        obtain ⟨uB, ud, hukv⟩ := ksat_len hrx2.ks
        have HUV := hide (show u.v = .agg #[.int .i64 u.k, .string u.ch, .bool u.nt, .slice uA u.rows.length uc, .int .i64 u.mi, .int .i64 u.ma, .bool u.lz, .slice uB u.kids.length ud] by unfold Rt.v Rt.cs; rw [hurv, hukv])
        rw [HUV.out]
        have HRU := hide hrx2
        have HFU := hide hfr2
        have HWL := hide (show w.heap.size + 1 ≤ w8.heap.size by have := M8w.out.1.grown.size; have := N1.out.1.grown.size; have := hbs.out; simp at *; omega)
        clear hm6 hrx2 hfr2 hurv hukv
        go_wp2
        refine bodyPost_ret (v := .tuple #[.agg #[.int .i64 u.k, .string u.ch, .bool u.nt, .slice uA u.rows.length uc, .int .i64 u.mi, .int .i64 u.ma, .bool u.lz, .slice uB u.kids.length ud], .int .i64 0]) ?_ rfl ⟨u, by rw [HUV.out], (rv8 (HMM.out) HNB.out (Nat.le_refl _) _ _ _ _ _ _ _ _ _ _ _ _ _ _ _ _), rx_kept HRU.out (HFU.out.mono HWL.out) (kept8 _ (Nat.lt_succ_self _) _ _ _ _ _ _ _ _ _ _ _ _ _ _ _ _), HFU.out.mono (Nat.le_of_succ_le HWL.out), rfl⟩
        rw [results_cell2 rfl]
        go_simp
  · obtain ⟨yC, zC⟩ := lit_eq C #[92] true (by rw [hCd]; exact h92)
    obtain ⟨D, hDe⟩ : ∃ D, zs[k + 1]'hn = D := ⟨_, rfl⟩
    rw [hDe] at hD
    have HCC := hide (show ∀ W, Rp W b A c zs l → ∃ g, A = some ⟨g, 0, none⟩ ∧ g ≠ b ∧ W.cell? ⟨g, k + 1, none⟩ = some (.string D) from fun W hp => by
      obtain ⟨g, g1, g2, g3⟩ := hp.cs (k + 1) hn
      rw [hDe] at g3
      exact ⟨g, g1, g2, g3⟩)
    have HST2 := hide (fun W W' (hp : Rp W b A c zs l) (hb : Below W.heap.size W W') => rr_step2 hp hl0 h2 hb k hk)
    rw [hN] at hn hzs
    have ew : IntKind.i64.wrap ((k : Int) + 1) = (k : Int) + 1 := by rw [IntKind.wrap_i64]; omega
    have ew2 : IntKind.i64.wrap ((k : Int) + 2) = (k : Int) + 2 := by rw [IntKind.wrap_i64]; omega
    have dd : decide ((k : Int) + 1 < (N : Int)) = true := decide_eq_true (by omega)
    have q1 : (0 : Int) ≤ (k : Int) + 1 := by omega
    have q2 : (k : Int) + 1 < (N : Int) := by omega
    have hl92 : hdC l = [92] := by simpa using h92
    clear hDe hn hzs hCd
    rcases k0 : (D.data.toList == [98]) with _ | _
    rotate_left
    · have hpat : atomP (d == 16) pat l = .ok (kdX 10 []) (tlC (tlC l)) := by
        unfold atomP
        rw [hl92, if_neg (by decide), if_neg (by decide), if_neg (by decide), if_pos (by decide)]
        unfold bakP
        rw [← hD, k0, if_pos rfl]
      rw [hpat] at ho
      simp only at ho
      rw [if_pos (by left; rfl)] at ho
      subst ho
      clear hpat
      obtain ⟨yD, zD⟩ := lit_eq D #[98] true k0
      clear h92 hl92 hD k0 h2 HATOM HAK hgt hl0
      go_enter Try.func57, Try.ntmps57
      go_wp2_with fail
      refine (HT0.out _ HP0.out).mono ?_
      rintro e u0 ⟨rfl, hm⟩
      have N0 : Hid (Rv (w.alloc (.cells #[.int .i64 0, .string ⟨#[]⟩, .bool false, .slice none 0 0, .int .i64 0, .int .i64 0, .bool false, .slice none 0 0] 25)) u0 b zs l) := hide hm
      clear hm
      go_wp2_with fail
      refine (HT1.out _ (N0.out.pl HP0.out)).mono ?_
      rintro e u1 ⟨rfl, hm⟩
      have N1 : Hid (Rv (w.alloc (.cells #[.int .i64 0, .string ⟨#[]⟩, .bool false, .slice none 0 0, .int .i64 0, .int .i64 0, .bool false, .slice none 0 0] 25)) u1 b zs l) := hide (N0.out.trans hm)
      clear hm
      have HP5 := hide (N1.out.pl HP0.out)
      have p1 := HP5.out.row
      rw [hN] at p1
      have hbw := HP5.out.lt
      have p2 := HP5.out.pos
      rw [hN] at hk p2
      rw [hk] at p2
      obtain ⟨g, rfl, hgb, p3⟩ := HCC.out _ HP5.out
      have hgw := World.block_lt_of_cell? _ _ p3
      have HSE := hide (fun (u : Later u1) => HSE0.out u.now (HP5.out.bl u.below))
      go_wp2_with fail
      refine wp_region_later (by kernel_rfl) (by kernel_rfl) ?_
      repeat (go_big_quiet_step (first | (go_at_call 56; exact later_call (HSE.out _)) | exact rfl))
      refine wpQuiet_nil ?_
      rintro w5 ⟨⟨_, hb5⟩, rfl⟩
      have M9 := hide (HSELF.out.trans (N1.out.trans (HST2.out _ _ HP5.out hb5)))
      have c9 := cell_later hb5 p2
      have f9 := (hb5.frozen (p := ⟨b, 1, none⟩) hbw).trans HP5.out.fz
      have Z9 := hide (Z0.out.mv (N1.out.bl hb5).1 HNB.out)
      clear p1 p2 p3 hgw hbw hb5
      have hne1 := HNB.out
      have hne2 : b ≠ w.heap.size := fun e => hne1 e.symm
      obtain ⟨z0, z1, z2, z3, z4, z5, z6, z7⟩ := (Z9.out).eight
      have hf1 := (Z9.out).f
      go_wp2
      refine bodyPost_ret (v := .tuple #[.agg #[.int .i64 10, .string ⟨#[]⟩, .bool false, .slice none 0 0, .int .i64 0, .int .i64 0, .bool false, .slice none 0 0], .int .i64 0]) ?_ rfl ⟨kdX 10 [], rfl, (rv8 (M9.out) HNB.out (Nat.le_refl _) _ _ _ _ _ _ _ _ _ _ _ _ _ _ _ _), rx_leaf _ _ rfl rfl rfl rfl, fr_leaf _ _ rfl rfl rfl, rfl⟩
      rw [results_cell2 rfl]
      go_simp
    obtain ⟨yD, zD⟩ := lit_eq D #[98] false k0
    rcases k1 : (D.data.toList == [66]) with _ | _
    rotate_left
    · have hpat : atomP (d == 16) pat l = .ok (kdX 11 []) (tlC (tlC l)) := by
        unfold atomP
        rw [hl92, if_neg (by decide), if_neg (by decide), if_neg (by decide), if_pos (by decide)]
        unfold bakP
        rw [← hD, k0, if_neg (by decide), k1, if_pos rfl]
      rw [hpat] at ho
      simp only at ho
      rw [if_pos (by right; rfl)] at ho
      subst ho
      clear hpat
      obtain ⟨yE, zE⟩ := lit_eq D #[66] true k1
      clear h92 hl92 hD k0 k1 h2 HATOM HAK hgt hl0
      go_enter Try.func57, Try.ntmps57
      go_wp2_with fail
      refine (HT0.out _ HP0.out).mono ?_
      rintro e u0 ⟨rfl, hm⟩
      have N0 : Hid (Rv (w.alloc (.cells #[.int .i64 0, .string ⟨#[]⟩, .bool false, .slice none 0 0, .int .i64 0, .int .i64 0, .bool false, .slice none 0 0] 25)) u0 b zs l) := hide hm
      clear hm
      go_wp2_with fail
      refine (HT1.out _ (N0.out.pl HP0.out)).mono ?_
      rintro e u1 ⟨rfl, hm⟩
      have N1 : Hid (Rv (w.alloc (.cells #[.int .i64 0, .string ⟨#[]⟩, .bool false, .slice none 0 0, .int .i64 0, .int .i64 0, .bool false, .slice none 0 0] 25)) u1 b zs l) := hide (N0.out.trans hm)
      clear hm
      have HP5 := hide (N1.out.pl HP0.out)
      have p1 := HP5.out.row
      rw [hN] at p1
      have hbw := HP5.out.lt
      have p2 := HP5.out.pos
      rw [hN] at hk p2
      rw [hk] at p2
      obtain ⟨g, rfl, hgb, p3⟩ := HCC.out _ HP5.out
      have hgw := World.block_lt_of_cell? _ _ p3
      have HSE := hide (fun (u : Later u1) => HSE0.out u.now (HP5.out.bl u.below))
      go_wp2_with fail
      refine wp_region_later (by kernel_rfl) (by kernel_rfl) ?_
      repeat (go_big_quiet_step (first | (go_at_call 56; exact later_call (HSE.out _)) | exact rfl))
      refine wpQuiet_nil ?_
      rintro w5 ⟨⟨_, hb5⟩, rfl⟩
      have HP8 := hide (HP5.out.bl hb5)
      replace p1 := cell_later hb5 p1
      replace hbw := HP8.out.lt
      replace p2 := cell_later hb5 p2
      replace p3 := cell_later hb5 p3
      replace hgw := World.block_lt_of_cell? _ _ p3
      have HSE8 := hide (fun (u : Later w5) => HSE0.out u.now (HP8.out.bl u.below))
      go_wp2_with fail
      refine wp_region_later (by kernel_rfl) (by kernel_rfl) ?_
      repeat (go_big_quiet_step (first | (go_at_call 56; exact later_call (HSE8.out _)) | exact rfl))
      refine wpQuiet_nil ?_
      rintro w8 ⟨⟨_, hb8⟩, rfl⟩
      have M9 := hide (HSELF.out.trans (N1.out.trans (HST2.out _ _ HP5.out (bl_trans hb5 hb8))))
      have c9 := cell_later hb8 p2
      have f9 := (hb8.frozen (p := ⟨b, 1, none⟩) hbw).trans HP8.out.fz
      have Z9 := hide (Z0.out.mv (N1.out.bl (bl_trans hb5 hb8)).1 HNB.out)
      clear p1 p2 p3 hgw hbw hb5 hb8
      have hne1 := HNB.out
      have hne2 : b ≠ w.heap.size := fun e => hne1 e.symm
      obtain ⟨z0, z1, z2, z3, z4, z5, z6, z7⟩ := (Z9.out).eight
      have hf1 := (Z9.out).f
      go_wp2
      refine bodyPost_ret (v := .tuple #[.agg #[.int .i64 11, .string ⟨#[]⟩, .bool false, .slice none 0 0, .int .i64 0, .int .i64 0, .bool false, .slice none 0 0], .int .i64 0]) ?_ rfl ⟨kdX 11 [], rfl, (rv8 (M9.out) HNB.out (Nat.le_refl _) _ _ _ _ _ _ _ _ _ _ _ _ _ _ _ _), rx_leaf _ _ rfl rfl rfl rfl, fr_leaf _ _ rfl rfl rfl, rfl⟩
      rw [results_cell2 rfl]
      go_simp
    obtain ⟨yE, zE⟩ := lit_eq D #[66] false k1
    have H98 : hdC l = [92] → hdC (tlC l) ≠ [98] ∧ hdC (tlC l) ≠ [66] := fun _ => by rw [← hD]; exact ⟨fun e => by rw [e] at k0; exact absurd k0 (by decide), fun e => by rw [e] at k1; exact absurd k1 (by decide)⟩
    have HAT := hide (HATOM.out H98)
    have HAK9 := hide (HAK.out H98)
    obtain ⟨q, hq⟩ : ∃ q, atomP (d == 16) pat l = q := ⟨_, rfl⟩
    rw [hq] at ho hgt HAT HAK9
    clear hq HATOM HAK
    clear h92 hl92 hD k0 k1 h2 H98 hl0 HST2
    go_enter Try.func57, Try.ntmps57
    go_wp2_with fail
    refine (HT0.out _ HP0.out).mono ?_
    rintro e u0 ⟨rfl, hm⟩
    have N0 : Hid (Rv (w.alloc (.cells #[.int .i64 0, .string ⟨#[]⟩, .bool false, .slice none 0 0, .int .i64 0, .int .i64 0, .bool false, .slice none 0 0] 25)) u0 b zs l) := hide hm
    clear hm
    go_wp2_with fail
    refine (HT1.out _ (N0.out.pl HP0.out)).mono ?_
    rintro e u1 ⟨rfl, hm⟩
    have N1 : Hid (Rv (w.alloc (.cells #[.int .i64 0, .string ⟨#[]⟩, .bool false, .slice none 0 0, .int .i64 0, .int .i64 0, .bool false, .slice none 0 0] 25)) u1 b zs l) := hide (N0.out.trans hm)
    clear hm
    have HP5 := hide (N1.out.pl HP0.out)
    have p1 := HP5.out.row
    rw [hN] at p1
    have hbw := HP5.out.lt
    have p2 := HP5.out.pos
    rw [hN] at hk p2
    rw [hk] at p2
    obtain ⟨g, rfl, hgb, p3⟩ := HCC.out _ HP5.out
    have hgw := World.block_lt_of_cell? _ _ p3
    have HSE := hide (fun (u : Later u1) => HSE0.out u.now (HP5.out.bl u.below))
    go_wp2_with fail
    refine wp_region_later (by kernel_rfl) (by kernel_rfl) ?_
    repeat (go_big_quiet_step (first | (go_at_call 56; exact later_call (HSE.out _)) | exact rfl))
    refine wpQuiet_nil ?_
    rintro w5 ⟨⟨_, hb5⟩, rfl⟩
    have HP8 := hide (HP5.out.bl hb5)
    replace p1 := cell_later hb5 p1
    replace hbw := HP8.out.lt
    replace p2 := cell_later hb5 p2
    replace p3 := cell_later hb5 p3
    replace hgw := World.block_lt_of_cell? _ _ p3
    have HSE8 := hide (fun (u : Later w5) => HSE0.out u.now (HP8.out.bl u.below))
    go_wp2_with fail
    refine wp_region_later (by kernel_rfl) (by kernel_rfl) ?_
    repeat (go_big_quiet_step (first | (go_at_call 56; exact later_call (HSE8.out _)) | exact rfl))
    refine wpQuiet_nil ?_
    rintro w8 ⟨⟨_, hb8⟩, rfl⟩
    have M8a : Hid (Rv (w.alloc (.cells #[.int .i64 0, .string ⟨#[]⟩, .bool false, .slice none 0 0, .int .i64 0, .int .i64 0, .bool false, .slice none 0 0] 25)) w8 b zs l) := hide ((N1.out.bl hb5).bl hb8)
    have hbs := hide (Nat.le_trans hb5.size hb8.size)
    clear p2 p3 hgw ew ew2 dd q1 q2 hk hb5 hb8 hbw p1
    have M8w := hide (HSELF.out.trans M8a.out)
    have Z8 := hide (Z0.out.mv M8a.out.1 HNB.out)
    go_wp2_with fail
    refine (HAT.out _ (M8a.out.pl HP0.out)).mono ?_
    intro e w3 hp
    rcases q with _ | n | ⟨x, r⟩
    · exact hp.elim
    · simp only at ho
      subst ho
      obtain ⟨rfl, k3, hm3⟩ := hp
      have HMM := hide ((M8w.out.1.trans hm3).bl (bl_alloc (bl_refl w3) (.cells #[.int .i64 0, .string ⟨#[]⟩, .bool false, .slice none 0 0, .int .i64 0, .int .i64 0, .bool false, .slice none 0 0] 25)))
      rw [show rt0.v = .agg #[.int .i64 0, .string ⟨#[]⟩, .bool false, .slice none 0 0, .int .i64 0, .int .i64 0, .bool false, .slice none 0 0] from rfl]
      have Z3 := hide ((Z8.out.mv hm3 HNB.out).bl (bl_alloc (bl_refl w3) (.cells #[.int .i64 0, .string ⟨#[]⟩, .bool false, .slice none 0 0, .int .i64 0, .int .i64 0, .bool false, .slice none 0 0] 25)))
      clear hm3 HAK9
      obtain ⟨z0, z1, z2, z3, z4, z5, z6, z7⟩ := (Z3.out).eight
      have hf1 := (Z3.out).f
      rcases hgt with rfl | rfl
      · go_wp2
        refine bodyPost_ret (v := .tuple #[.agg #[.int .i64 0, .string ⟨#[]⟩, .bool false, .slice none 0 0, .int .i64 0, .int .i64 0, .bool false, .slice none 0 0], .int .i64 8]) ?_ rfl ⟨rfl, _, (mvd8 (HMM.out) HNB.out (Nat.le_refl _) _ _ _ _ _ _ _ _ _ _ _ _ _ _ _ _)⟩
        rw [results_cell2 rfl]
        go_simp
      · go_wp2
        refine bodyPost_ret (v := .tuple #[.agg #[.int .i64 0, .string ⟨#[]⟩, .bool false, .slice none 0 0, .int .i64 0, .int .i64 0, .bool false, .slice none 0 0], .int .i64 10]) ?_ rfl ⟨rfl, _, (mvd8 (HMM.out) HNB.out (Nat.le_refl _) _ _ _ _ _ _ _ _ _ _ _ _ _ _ _ _)⟩
        rw [results_cell2 rfl]
        go_simp
    · simp only at ho
      rw [if_neg (HAK9.out x r rfl)] at ho
      obtain ⟨t, rfl, hm3, hrx, hfr, her⟩ := hp
      subst her
      have M3w := hide (M8w.out.trans hm3)
      have HBN := hide (show b < w8.heap.size from M8a.out.1.lt)
      have HSZ := hide hm3.1.grown.size
      have HTI := hide (fun (W : World) (hb : Below w3.heap.size w3 W) => rtimes_any ((M3w.out.pl HS.out).bl hb) HBN.out (Nat.le_trans HSZ.out hb.size) t (rx_below hrx hb) hfr res ho)
      obtain ⟨tA, tc, htrv⟩ := rwat_len hrx.rows
      obtain ⟨tB, td, htkv⟩ := ksat_len hrx.ks
      have HTV := hide (show t.v = .agg #[.int .i64 t.k, .string t.ch, .bool t.nt, .slice tA t.rows.length tc, .int .i64 t.mi, .int .i64 t.ma, .bool t.lz, .slice tB t.kids.length td] by unfold Rt.v Rt.cs; rw [htrv, htkv])
      rw [HTV.out]
      rw [HTV.out] at HTI
      have M4w := hide (M3w.out.bl (bl_alloc (bl_refl w3) (.cells #[.int .i64 t.k, .string t.ch, .bool t.nt, .slice tA t.rows.length tc, .int .i64 t.mi, .int .i64 t.ma, .bool t.lz, .slice tB t.kids.length td] 25)))
      have Z4 := hide ((Z8.out.mv hm3.1 HNB.out).bl (bl_alloc (bl_refl w3) (.cells #[.int .i64 t.k, .string t.ch, .bool t.nt, .slice tA t.rows.length tc, .int .i64 t.mi, .int .i64 t.ma, .bool t.lz, .slice tB t.kids.length td] 25)))
      have K4 := hide (show Cl (w3.alloc (.cells #[.int .i64 t.k, .string t.ch, .bool t.nt, .slice tA t.rows.length tc, .int .i64 t.mi, .int .i64 t.ma, .bool t.lz, .slice tB t.kids.length td] 25)) w3.heap.size [.int .i64 t.k, .string t.ch, .bool t.nt, .slice tA t.rows.length tc, .int .i64 t.mi, .int .i64 t.ma, .bool t.lz, .slice tB t.kids.length td] from cl_alloc w3 [.int .i64 t.k, .string t.ch, .bool t.nt, .slice tA t.rows.length tc, .int .i64 t.mi, .int .i64 t.ma, .bool t.lz, .slice tB t.kids.length td] _)
      clear hm3 hrx hfr htrv htkv ho HAK9 hgt
      obtain ⟨k0, k1, k2, k3, k4, k5, k6, k7⟩ := K4.out.eight
      go_wp2_with fail
      refine (HTI.out _ (bl_alloc (bl_refl w3) _)).mono ?_
      clear k0 k1 k2 k3 k4 k5 k6 k7
      intro e w6 hp
      rcases res with _ | n2 | ⟨x2, r2⟩
      · exact hp.elim
      · obtain ⟨rfl, k6, hm6⟩ := hp
        have HMM := hide (M4w.out.1.trans hm6)
        obtain ⟨z0, z1, z2, z3, z4, z5, z6, z7⟩ := (Z4.out.mv hm6 HNB.out).eight
        have hf1 := (Z4.out.mv hm6 HNB.out).f
        rw [show rt0.v = .agg #[.int .i64 0, .string ⟨#[]⟩, .bool false, .slice none 0 0, .int .i64 0, .int .i64 0, .bool false, .slice none 0 0] from rfl]
        clear hm6
        go_wp2
        refine bodyPost_ret (v := .tuple #[.agg #[.int .i64 0, .string ⟨#[]⟩, .bool false, .slice none 0 0, .int .i64 0, .int .i64 0, .bool false, .slice none 0 0], .int .i64 n2]) ?_ rfl ⟨rfl, _, (mvd8 (HMM.out) HNB.out (Nat.le_refl _) _ _ _ _ _ _ _ _ _ _ _ _ _ _ _ _)⟩
        rw [results_cell2 rfl]
        go_simp
      · obtain ⟨u, rfl, hm6, hrx2, hfr2, her2⟩ := hp
        subst her2
        have HMM := hide (M4w.out.trans hm6)
        obtain ⟨z0, z1, z2, z3, z4, z5, z6, z7⟩ := (Z4.out.mv hm6.1 HNB.out).eight
        have hf1 := (Z4.out.mv hm6.1 HNB.out).f
        obtain ⟨uA, uc, hurv⟩ := rwat_len hrx2.rows
        obtain ⟨uB, ud, hukv⟩ := ksat_len hrx2.ks
        have HUV := hide (show u.v = .agg #[.int .i64 u.k, .string u.ch, .bool u.nt, .slice uA u.rows.length uc, .int .i64 u.mi, .int .i64 u.ma, .bool u.lz, .slice uB u.kids.length ud] by unfold Rt.v Rt.cs; rw [hurv, hukv])
        rw [HUV.out]
        have HRU := hide hrx2
        have HFU := hide hfr2
        have HWL := hide (show w.heap.size + 1 ≤ w8.heap.size by have := M8w.out.1.grown.size; have := N1.out.1.grown.size; have := hbs.out; simp at *; omega)
        clear hm6 hrx2 hfr2 hurv hukv
        go_wp2
        refine bodyPost_ret (v := .tuple #[.agg #[.int .i64 u.k, .string u.ch, .bool u.nt, .slice uA u.rows.length uc, .int .i64 u.mi, .int .i64 u.ma, .bool u.lz, .slice uB u.kids.length ud], .int .i64 0]) ?_ rfl ⟨u, by rw [HUV.out], (rv8 (HMM.out) HNB.out (Nat.le_refl _) _ _ _ _ _ _ _ _ _ _ _ _ _ _ _ _), rx_kept HRU.out (HFU.out.mono HWL.out) (kept8 _ (Nat.lt_succ_self _) _ _ _ _ _ _ _ _ _ _ _ _ _ _ _ _), HFU.out.mono (Nat.le_of_succ_le HWL.out), rfl⟩
        rw [results_cell2 rfl]
        go_simp
end
section
open Go.ChangeShapes Go.WideShapes Go.ChangeAt Go.RowKit
open SetM
attribute [local go_sem ↓] Go.wp_at_zero Go.wp_at_succ
set_option maxRecDepth 100000
set_option linter.unusedVariables false
attribute [local go_sem] later_cell later_frozen
set_option maxHeartbeats 32000000 in
theorem rpattern_step {w : World} {b : Nat} {A : Option Addr} {c : Nat} {zs : List ByteArray} {l : List UInt8} (h : Rp w b A c zs l) (hl : l.length ≤ 256) (d : Nat) (deep : Bool) (pat : List UInt8 → Res)
    (HTRM : ∀ W l', l'.length ≤ 256 → endB l' = false → Rp W b A c zs l' → Calls Try.prog 57 #[.pointer (some ⟨b, 0, none⟩), .int .i64 (d : Int)] W (RrPost W b zs (termP deep pat l'))) (hgd : ∀ l, l ≠ [] → Gd 1 0 l (termP deep pat l)) (hgd2 : ∀ l, Gd 0 1 l (termsP deep pat (l.length + 1) [] l))
    (res : Res) (ho : altsP deep pat (l.length + 1) [] l = res) : Calls Try.prog 46 #[.pointer (some ⟨b, 0, none⟩), .int .i64 (d : Int)] w (RrPost w b zs res) := by
  obtain ⟨i0, hi0, hz0', hz1, hz2⟩ := info_parts info_rx
  have hbw := h.lt
  have HS := hide h
  have HNB := hide (show w.heap.size ≠ b by omega)
  have HBW := hide hbw
  have HP0 := hide (h.bl (bl_alloc (bl_refl w) (.cells #[.int .i64 0, .string ⟨#[]⟩, .bool false, .slice none 0 0, .int .i64 0, .int .i64 0, .bool false, .slice none 0 0] 25)))
  have HSELF := hide (HS.out.self (bl_alloc (bl_refl w) (.cells #[.int .i64 0, .string ⟨#[]⟩, .bool false, .slice none 0 0, .int .i64 0, .int .i64 0, .bool false, .slice none 0 0] 25)))
  have Z0 := hide (show Cl (w.alloc (.cells #[.int .i64 0, .string ⟨#[]⟩, .bool false, .slice none 0 0, .int .i64 0, .int .i64 0, .bool false, .slice none 0 0] 25)) w.heap.size [.int .i64 0, .string ⟨#[]⟩, .bool false, .slice none 0 0, .int .i64 0, .int .i64 0, .bool false, .slice none 0 0] from cl_alloc w [.int .i64 0, .string ⟨#[]⟩, .bool false, .slice none 0 0, .int .i64 0, .int .i64 0, .bool false, .slice none 0 0] _)
  have HTM := hide HTRM
  have HGD := hide hgd
  have HGD2 := hide hgd2
  have HO0 := hide ho
  have HL0 := hide (show ([] : List Rt).length + l.length ≤ 256 by simp only [List.length_nil]; omega)
  have HM0 := hide (HP0.out.self (bl_refl _))
  have HZS := hide h.sz
  clear h hbw HTRM hgd hgd2 ho hl
  go_enter Try.func46, Try.ntmps46
  go_wp2
  go_loopw [6] (fun v wr => ∃ (L : List Rt) (l1 : List UInt8) (n : Nat) (A1 : Option Addr) (c1 : Nat), v = .slice A1 L.length c1 ∧ Hid (wr.ownsRow (w.heap.size + 1) 25 8 (.slice A1 L.length c1) L.length (flatX L)) ∧ Hid (Rv (w.alloc (.cells #[.int .i64 0, .string ⟨#[]⟩, .bool false, .slice none 0 0, .int .i64 0, .int .i64 0, .bool false, .slice none 0 0] 25)) wr b zs l1) ∧ Hid (altsP deep pat n (L.map er) l1 = res) ∧ l1.length < n ∧ L.length + l1.length ≤ 256 ∧ Hid (sL L + 8 * l1.length ≤ 4000) ∧ Hid (∀ x ∈ L, (RxAt wr x ∧ ∀ g, (Value.slice A1 L.length c1).ownBlock = some g → Off g x) ∧ Fr (w.heap.size + 1) x)) (fun _ wr => zs.length - posOf wr b)
  case atStart => exact ⟨[], l, l.length + 1, none, 0, rfl, hide ⟨by simp [flatX], .inl ⟨rfl, rfl⟩⟩, HM0, HO0, Nat.lt_succ_self _, HL0.out, hide (by have := HL0.out; simp only [sL, List.length_nil] at this ⊢; omega), hide (fun x hx => by cases hx)⟩
  case round =>
    obtain ⟨L, l1, n, A1, c1, rfl, HROW, HM, HO, hn, hal, HSZ, HALL⟩ := hrel
    obtain ⟨n, rfl⟩ : ∃ k, n = k + 1 := ⟨n - 1, by omega⟩
    have HPL := hide (HM.out.pl HP0.out)
    have ho2 := HO.out
    rw [altsP] at ho2
    have hgq := HGD2.out l1
    obtain ⟨q, hq⟩ : ∃ q, termsP deep pat (l1.length + 1) [] l1 = q := ⟨_, rfl⟩
    rw [hq] at ho2 hgq
    have HO2 := hide ho2
    have HQ0 := hide hq
    have HGQ := hide hgq
    have HN1 := hide (show l1.length < n + 1 ∧ L.length + l1.length ≤ 256 from ⟨hn, hal⟩)
    have HG9 := hide (show ∀ g, (Value.slice A1 L.length c1).ownBlock = some g → g < wr.heap.size from fun g hg => (HROW.out.lt g hg).2)
    have HWW := hide (show w.heap.size + 1 ≤ wr.heap.size by have := HM.out.1.grown.size; simpa using this)
    have HBR := hide (show b < wr.heap.size from HM.out.1.lt)
    have HM2 := hide (HPL.out.self (bl_refl wr))
    clear hq ho2 HO hgq hn hal HM0 HL0 HO0
    rename World => wo
    go_wp2
    go_loopw [7] (fun v wr => ∃ (L2 : List Rt) (l2 : List UInt8) (n2 : Nat) (A2 : Option Addr) (c2 : Nat), v = .slice A2 L2.length c2 ∧ Hid (wr.ownsRow wo.heap.size 25 8 (.slice A2 L2.length c2) L2.length (flatX L2)) ∧ Hid (Rv wo wr b zs l2) ∧ Hid (termsP deep pat n2 (L2.map er) l2 = q) ∧ l2.length < n2 ∧ L2.length + l2.length ≤ 256 ∧ Hid (sL L2 + 8 * l2.length ≤ 4000) ∧ l2.length ≤ l1.length ∧ Hid (∀ x ∈ L2, (RxAt wr x ∧ ∀ g, (Value.slice A2 L2.length c2).ownBlock = some g → Off g x) ∧ Fr wo.heap.size x)) (fun _ wr => zs.length - posOf wr b)
    case atStart => exact ⟨[], l1, l1.length + 1, none, 0, rfl, hide ⟨by simp [flatX], .inl ⟨rfl, rfl⟩⟩, HM2, HQ0, Nat.lt_succ_self _, by have := HN1.out.2; simp only [List.length_nil]; omega, hide (by have := HN1.out.2; simp only [sL]; omega), Nat.le_refl _, hide (fun x hx => by cases hx)⟩
    case round =>
      obtain ⟨L2, l2, n2, A2, c2, rfl, HROW2, HMI, HO3, hn2, hal2, HSZ2, hl21, HALL2⟩ := hrel
      obtain ⟨n2, rfl⟩ : ∃ k, n2 = k + 1 := ⟨n2 - 1, by omega⟩
      have HPI := hide (HMI.out.pl HPL.out)
      have HL21 := hide hl21
      have HN2 := hide (show l2.length < n2 + 1 ∧ L2.length + l2.length ≤ 256 from ⟨hn2, hal2⟩)
      have ho3 := HO3.out
      rw [termsP] at ho3
      obtain ⟨C, hC⟩ : ∃ C, bsC (hdC l2) = C := ⟨_, rfl⟩
      have hCd : C.data.toList = hdC l2 := by rw [← hC, bsC_data]
      have HSE := hide (fun (u : Later wr) => rr_see (HPI.out.bl u.below) C hC)
      have p1 := HPI.out.row
      have p2 := HPI.out.pos
      have hbi := HPI.out.lt
      have hle := HPI.out.le
      obtain ⟨N, hN⟩ : ∃ N, zs.length = N := ⟨_, rfl⟩
      obtain ⟨k, hk⟩ : ∃ k, zs.length - (splitL l2).length = k := ⟨_, rfl⟩
      rw [hk] at p2
      rw [hN] at hk hle p1
      clear hC HO3 hn2 hal2 HQ0 HM2 hl21
      by_cases hE : endB l2 = true
      · rw [if_pos hE] at ho3
        have HQ9 := hide ho3.symm
        obtain ⟨qt, hqt⟩ : ∃ q, (hdC l2 == [124]) = q := ⟨_, rfl⟩
        have HTK := hide (fun W (hp : Rp W b A c zs l2) => rr_take hp ⟨#[124]⟩ (by decide) qt hqt)
        have HQT := hide hqt
        by_cases h0 : l2 = []
        · have hkN : k = N := by rw [h0, split_nil, List.length_nil] at hk; omega
          have dk : decide ((k : Int) < (N : Int)) = false := decide_eq_false (by omega)
          have dk' : decide (k < N) = false := decide_eq_false (by omega)
          clear hqt ho3 hE h0 hCd hk hle hkN
          go_wp2_with fail
          refine wp_region_later (by kernel_rfl) (by kernel_rfl) ?_
          repeat (go_big_quiet_step (first | (go_at_call 56; exact later_call (HSE.out _)) | exact rfl))
          refine wpQuiet_nil ?_
          rintro w9 ⟨⟨_, hb9⟩, rfl⟩
          have HMI9 := hide (HMI.out.bl hb9)
          have HSQ := hide (rseqf_any (N := wo.heap.size) (.slice A2 L2.length c2) L2 w9 (ksat_below (own_ksat HROW2.out) hb9) (fun i hi => rx_below (HALL2.out _ (List.getElem_mem hi)).1.1 hb9) (by have := HSZ2.out; omega) (fun i hi => (HALL2.out _ (List.getElem_mem hi)).2) HMI9.out.1.grown.size)
          unfold RsfPost at HSQ
          clear p1 p2 hbi hb9 dk dk'
          go_wp2_with fail
          refine HSQ.out.mono ?_
          rintro e w3 ⟨t, rfl, hb3, hrx, her, hfr⟩
          have HMI3 := hide (HMI9.out.bl hb3)
          have M3 : Hid (Rv (w.alloc (.cells #[.int .i64 0, .string ⟨#[]⟩, .bool false, .slice none 0 0, .int .i64 0, .int .i64 0, .bool false, .slice none 0 0] 25)) w3 b zs l2) := hide (HM.out.trans HMI3.out)
          have HROW3 := hide (own_rv HROW.out HMI3.out.1 (Nat.lt_succ_of_lt HBW.out))
          have HER := hide (show er t = seqX (flK 0 (L2.map er)) by rw [flK_er]; exact her)
          have HFR := hide (hfr.mono HWW.out)
          have HOFF := hide (show ∀ g, (Value.slice A1 L.length c1).ownBlock = some g → Off g t from fun g hg => off_fr hfr (HG9.out g hg))
          have HALL3 := hide (show ∀ W, Below w3.heap.size w3 W → (∀ x ∈ L, (RxAt W x ∧ ∀ g, (Value.slice A1 L.length c1).ownBlock = some g → Off g x) ∧ Fr (w.heap.size + 1) x) from fun W hW x hx => ⟨⟨rx_below (rx_kept (HALL.out x hx).1.1 (HALL.out x hx).2 (rv_kept HMI3.out (Nat.lt_succ_of_lt HBW.out))) hW, (HALL.out x hx).1.2⟩, (HALL.out x hx).2⟩)
          obtain ⟨tA, tc, htrv⟩ := rwat_len hrx.rows
          obtain ⟨tB, td, htkv⟩ := ksat_len hrx.ks
          have HTV := hide (show t.v = .agg #[.int .i64 t.k, .string t.ch, .bool t.nt, .slice tA t.rows.length tc, .int .i64 t.mi, .int .i64 t.ma, .bool t.lz, .slice tB t.kids.length td] by unfold Rt.v Rt.cs; rw [htrv, htkv])
          have HCS := hide (show t.cs = [.int .i64 t.k, .string t.ch, .bool t.nt, .slice tA t.rows.length tc, .int .i64 t.mi, .int .i64 t.ma, .bool t.lz, .slice tB t.kids.length td] by unfold Rt.cs; rw [htrv, htkv])
          rw [HTV.out]
          have HRX := hide hrx
          have HONE := hide (show ∀ u ∈ ([.int .i64 t.k, .string t.ch, .bool t.nt, .slice tA t.rows.length tc, .int .i64 t.mi, .int .i64 t.ma, .bool t.lz, .slice tB t.kids.length td] : List Value), u.oneCell' = true by rw [← HCS.out]; intro u hu; exact one_cellX (w := w3) [t] (fun x hx => by obtain rfl : x = t := (by simpa using hx); exact HRX.out) u (by simpa [flatX] using hu))
          have HOWN := hide (fun (W : World) (hb : Below w3.heap.size w3 W) => own_below HROW3.out hb)
          have HB3 := hide (show w.heap.size + 1 ≤ w3.heap.size from Nat.le_trans HWW.out HMI3.out.1.grown.size)
          have HBB := hide (bl_alloc (bl_refl w3) (.cells #[.int .i64 t.k, .string t.ch, .bool t.nt, .slice tA t.rows.length tc, .int .i64 t.mi, .int .i64 t.ma, .bool t.lz, .slice tB t.kids.length td] 25))
          clear hb3 hrx hfr her htrv htkv
          go_wp2_with (at_builtin; go_must (refine wpList_src5 _ rfl _ _ 23 rfl (w.heap.size + 1) 25 i0 rt0.v 8 104 Try.underlying23 hi0 hz0' hz1 hz2 rfl (by decide) (.slice A1 L.length c1) L.length (flatX L) rfl (HOWN.out _ HBB.out) (some ⟨_, 0, none⟩) 1 1 [.int .i64 t.k, .string t.ch, .bool t.nt, .slice tA t.rows.length tc, .int .i64 t.mi, .int .i64 t.ma, .bool t.lz, .slice tB t.kids.length td] rfl (src_block (cs := #[.int .i64 t.k, .string t.ch, .bool t.nt, .slice tA t.rows.length tc, .int .i64 t.mi, .int .i64 t.ma, .bool t.lz, .slice tB t.kids.length td]) (heap_new (by simp)) rfl) HONE.out (by have := HN1.out; have := HN2.out; omega) (by decide) (Nat.le_trans HB3.out HBB.out.size) ?_); intro v' w19 hv4 hg4 h5)
          rw [← HCS.out] at hv4
          obtain ⟨B, d9, rfl, hown4, hall4⟩ := row_step (HALL3.out _ HBB.out) (rx_below HRX.out HBB.out) HFR.out HOFF.out hv4 hg4 h5
          have hm4 := (M3.out.bl HBB.out).appendv (HOWN.out _ HBB.out) hg4 (Nat.lt_succ_of_lt HBW.out) (by simp)
          have HM4 := hide hm4
          have HROW4 := hide hown4
          have HALL4 := hide hall4
          have HLL := hide (show (L ++ [t]).length = L.length + 1 by simp)
          have HSZT := hide (show sM t + 8 * l2.length ≤ 8 * l1.length + 1 by have h1 := HGQ.out; rw [HQ9.out] at h1; obtain ⟨g1, g2, g3⟩ := h1; rw [← HER.out, sM_er] at g2; exact g2)
          have HSZ4 := hide (show sL (L ++ [t]) ≤ 4001 by have := HSZT.out; have := HSZ.out; rw [sL_app]; simp only [sL]; omega)
          clear hv4 hg4 h5 hm4 hown4 hall4
          go_wp2_with fail
          refine (HTK.out _ (HM4.out.pl HP0.out)).mono ?_
          rintro e w5 ⟨rfl, hm5⟩
          have M5 : Hid (Rv (w.alloc (.cells #[.int .i64 0, .string ⟨#[]⟩, .bool false, .slice none 0 0, .int .i64 0, .int .i64 0, .bool false, .slice none 0 0] 25)) w5 b zs (if qt = true then tlC l2 else l2)) := hide (HM4.out.trans hm5)
          have HROW5 := hide (own_rv HROW4.out hm5.1 (Nat.lt_succ_of_lt HBW.out))
          have HALL5 := hide (show (∀ x ∈ L ++ [t], (RxAt w5 x ∧ ∀ g, (Value.slice B (L ++ [t]).length d9).ownBlock = some g → Off g x) ∧ Fr (w.heap.size + 1) x) from fun x hx => ⟨⟨rx_kept (HALL4.out x hx).1.1 (HALL4.out x hx).2 (rv_kept hm5 (Nat.lt_succ_of_lt HBW.out)), (HALL4.out x hx).1.2⟩, (HALL4.out x hx).2⟩)
          clear hm5
          cases qt
          · simp only [Bool.false_eq_true, if_false] at M5
            have HRES := hide (show ∀ e w', RrPost w b zs (.ok (altX (flK 1 (L ++ [t]))) l2) e w' → RrPost w b zs res e w' from fun e w' h => by
              have := HO2.out
              rw [HQ9.out] at this
              simp only at this
              rw [HQT.out, if_neg (by decide), ← HER.out, show L.map er ++ [er t] = (L ++ [t]).map er by simp, flK_er] at this
              rw [← this]; exact h)
            have HSA := hide (raltf_any (N := w.heap.size + 1) (.slice B (L ++ [t]).length d9) (L ++ [t]) w5 (own_ksat HROW5.out) (fun i hi => (HALL5.out _ (List.getElem_mem hi)).1.1) (by have := HSZ4.out; omega) (fun i hi => (HALL5.out _ (List.getElem_mem hi)).2) (by have := M5.out.1.grown.size; simpa using this))
            unfold RsfPost at HSA
            rw [HLL.out] at HSA
            clear HO2
            go_wp2_with fail
            refine HSA.out.mono ?_
            rintro e w2 ⟨u, rfl, hb2, hrx2, hu, hfr2⟩
            have M2 : Hid (Rv (w.alloc (.cells #[.int .i64 0, .string ⟨#[]⟩, .bool false, .slice none 0 0, .int .i64 0, .int .i64 0, .bool false, .slice none 0 0] 25)) w2 b zs l2) := hide (M5.out.bl hb2)
            obtain ⟨z0, z1, z2, z3, z4, z5, z6, z7⟩ := (Z0.out.mv M2.out.1 HNB.out).eight
            have hf1 := (Z0.out.mv M2.out.1 HNB.out).f
            obtain ⟨uA, uc, hurv⟩ := rwat_len hrx2.rows
            obtain ⟨uB, ud, hukv⟩ := ksat_len hrx2.ks
            have HUV := hide (show u.v = .agg #[.int .i64 u.k, .string u.ch, .bool u.nt, .slice uA u.rows.length uc, .int .i64 u.mi, .int .i64 u.ma, .bool u.lz, .slice uB u.kids.length ud] by unfold Rt.v Rt.cs; rw [hurv, hukv])
            rw [HUV.out]
            have HRU := hide hrx2
            have HFU := hide hfr2
            have HU := hide hu
            clear hb2 hrx2 hfr2 hu hurv hukv
            go_wp2
            refine bodyPost_ret (v := .tuple #[.agg #[.int .i64 u.k, .string u.ch, .bool u.nt, .slice uA u.rows.length uc, .int .i64 u.mi, .int .i64 u.ma, .bool u.lz, .slice uB u.kids.length ud], .int .i64 0]) ?_ rfl (HRES.out _ _ ⟨u, by rw [HUV.out], (rv8 (HSELF.out.trans M2.out) HNB.out (Nat.le_refl _) _ _ _ _ _ _ _ _ _ _ _ _ _ _ _ _), rx_kept HRU.out HFU.out (kept8 _ (Nat.lt_succ_self _) _ _ _ _ _ _ _ _ _ _ _ _ _ _ _ _), HFU.out.mono (Nat.le_succ _), HU.out⟩)
            rw [results_cell2 rfl]
            go_simp
          · simp only [if_true] at M5
            have HTS := hide (show (tlC l2).length < l2.length from hd_ne HQT.out)
            have HO4 := hide (show altsP deep pat n ((L ++ [t]).map er) (tlC l2) = res by have := HO2.out; rw [HQ9.out] at this; simp only at this; rw [HQT.out, if_pos rfl, ← HER.out] at this; rw [List.map_append]; exact this)
            have HLEN := hide (show Value.slice B (L.length + 1) d9 = .slice B (L ++ [t]).length d9 by rw [HLL.out])
            have HNL := hide (show (tlC l2).length < n ∧ (L ++ [t]).length + (tlC l2).length ≤ 256 by have := HL21.out; have := HTS.out; have := HN1.out; rw [HLL.out]; omega)
            have HSZ5 := hide (show sL (L ++ [t]) + 8 * (tlC l2).length ≤ 4000 by have := HSZT.out; have := HTS.out; have := HSZ.out; rw [sL_app]; simp only [sL]; omega)
            have HMS := hide (show zs.length - posOf w5 b < zs.length - posOf wo b by rw [posOf_rv M5.out, posOf_rv HM.out]; have := spl_lt HM.out.2 M5.out.2 (by have := HL21.out; have := HTS.out; omega); have := HPL.out.le; omega)
            go_wp2
            refine ⟨?_, HMS.out⟩
            first
              | exact ⟨L ++ [t], tlC l2, n, B, d9, HLEN.out, HROW5, M5, HO4, HNL.out.1, HNL.out.2, HSZ5, HALL5⟩
              | ((repeat apply Exists.intro); exact ⟨⟨L ++ [t], tlC l2, n, B, d9, HLEN.out, HROW5, M5, HO4, HNL.out.1, HNL.out.2, HSZ5, HALL5⟩, rfl⟩)
        have hlt : k < N := by rw [split_cons h0, List.length_cons] at hk hle; omega
        have dk : decide ((k : Int) < (N : Int)) = true := decide_eq_true (by omega)
        have dk' : decide (k < N) = true := decide_eq_true (by omega)
        cases qt
        rotate_left
        · obtain ⟨yC, zC⟩ := lit_eq C #[124] true (by rw [hCd]; exact hqt)
          clear hqt ho3 hE h0 hCd hk hle hlt
          go_wp2_with fail
          refine wp_region_later (by kernel_rfl) (by kernel_rfl) ?_
          repeat (go_big_quiet_step (first | (go_at_call 56; exact later_call (HSE.out _)) | exact rfl))
          refine wpQuiet_nil ?_
          rintro w9 ⟨⟨_, hb9⟩, rfl⟩
          have HMI9 := hide (HMI.out.bl hb9)
          have HSQ := hide (rseqf_any (N := wo.heap.size) (.slice A2 L2.length c2) L2 w9 (ksat_below (own_ksat HROW2.out) hb9) (fun i hi => rx_below (HALL2.out _ (List.getElem_mem hi)).1.1 hb9) (by have := HSZ2.out; omega) (fun i hi => (HALL2.out _ (List.getElem_mem hi)).2) HMI9.out.1.grown.size)
          unfold RsfPost at HSQ
          clear p1 p2 hbi hb9 dk dk'
          go_wp2_with fail
          refine HSQ.out.mono ?_
          rintro e w3 ⟨t, rfl, hb3, hrx, her, hfr⟩
          have HMI3 := hide (HMI9.out.bl hb3)
          have M3 : Hid (Rv (w.alloc (.cells #[.int .i64 0, .string ⟨#[]⟩, .bool false, .slice none 0 0, .int .i64 0, .int .i64 0, .bool false, .slice none 0 0] 25)) w3 b zs l2) := hide (HM.out.trans HMI3.out)
          have HROW3 := hide (own_rv HROW.out HMI3.out.1 (Nat.lt_succ_of_lt HBW.out))
          have HER := hide (show er t = seqX (flK 0 (L2.map er)) by rw [flK_er]; exact her)
          have HFR := hide (hfr.mono HWW.out)
          have HOFF := hide (show ∀ g, (Value.slice A1 L.length c1).ownBlock = some g → Off g t from fun g hg => off_fr hfr (HG9.out g hg))
          have HALL3 := hide (show ∀ W, Below w3.heap.size w3 W → (∀ x ∈ L, (RxAt W x ∧ ∀ g, (Value.slice A1 L.length c1).ownBlock = some g → Off g x) ∧ Fr (w.heap.size + 1) x) from fun W hW x hx => ⟨⟨rx_below (rx_kept (HALL.out x hx).1.1 (HALL.out x hx).2 (rv_kept HMI3.out (Nat.lt_succ_of_lt HBW.out))) hW, (HALL.out x hx).1.2⟩, (HALL.out x hx).2⟩)
          obtain ⟨tA, tc, htrv⟩ := rwat_len hrx.rows
          obtain ⟨tB, td, htkv⟩ := ksat_len hrx.ks
          have HTV := hide (show t.v = .agg #[.int .i64 t.k, .string t.ch, .bool t.nt, .slice tA t.rows.length tc, .int .i64 t.mi, .int .i64 t.ma, .bool t.lz, .slice tB t.kids.length td] by unfold Rt.v Rt.cs; rw [htrv, htkv])
          have HCS := hide (show t.cs = [.int .i64 t.k, .string t.ch, .bool t.nt, .slice tA t.rows.length tc, .int .i64 t.mi, .int .i64 t.ma, .bool t.lz, .slice tB t.kids.length td] by unfold Rt.cs; rw [htrv, htkv])
          rw [HTV.out]
          have HRX := hide hrx
          have HONE := hide (show ∀ u ∈ ([.int .i64 t.k, .string t.ch, .bool t.nt, .slice tA t.rows.length tc, .int .i64 t.mi, .int .i64 t.ma, .bool t.lz, .slice tB t.kids.length td] : List Value), u.oneCell' = true by rw [← HCS.out]; intro u hu; exact one_cellX (w := w3) [t] (fun x hx => by obtain rfl : x = t := (by simpa using hx); exact HRX.out) u (by simpa [flatX] using hu))
          have HOWN := hide (fun (W : World) (hb : Below w3.heap.size w3 W) => own_below HROW3.out hb)
          have HB3 := hide (show w.heap.size + 1 ≤ w3.heap.size from Nat.le_trans HWW.out HMI3.out.1.grown.size)
          have HBB := hide (bl_alloc (bl_refl w3) (.cells #[.int .i64 t.k, .string t.ch, .bool t.nt, .slice tA t.rows.length tc, .int .i64 t.mi, .int .i64 t.ma, .bool t.lz, .slice tB t.kids.length td] 25))
          clear hb3 hrx hfr her htrv htkv
          go_wp2_with (at_builtin; go_must (refine wpList_src5 _ rfl _ _ 23 rfl (w.heap.size + 1) 25 i0 rt0.v 8 104 Try.underlying23 hi0 hz0' hz1 hz2 rfl (by decide) (.slice A1 L.length c1) L.length (flatX L) rfl (HOWN.out _ HBB.out) (some ⟨_, 0, none⟩) 1 1 [.int .i64 t.k, .string t.ch, .bool t.nt, .slice tA t.rows.length tc, .int .i64 t.mi, .int .i64 t.ma, .bool t.lz, .slice tB t.kids.length td] rfl (src_block (cs := #[.int .i64 t.k, .string t.ch, .bool t.nt, .slice tA t.rows.length tc, .int .i64 t.mi, .int .i64 t.ma, .bool t.lz, .slice tB t.kids.length td]) (heap_new (by simp)) rfl) HONE.out (by have := HN1.out; have := HN2.out; omega) (by decide) (Nat.le_trans HB3.out HBB.out.size) ?_); intro v' w19 hv4 hg4 h5)
          rw [← HCS.out] at hv4
          obtain ⟨B, d9, rfl, hown4, hall4⟩ := row_step (HALL3.out _ HBB.out) (rx_below HRX.out HBB.out) HFR.out HOFF.out hv4 hg4 h5
          have hm4 := (M3.out.bl HBB.out).appendv (HOWN.out _ HBB.out) hg4 (Nat.lt_succ_of_lt HBW.out) (by simp)
          have HM4 := hide hm4
          have HROW4 := hide hown4
          have HALL4 := hide hall4
          have HLL := hide (show (L ++ [t]).length = L.length + 1 by simp)
          have HSZT := hide (show sM t + 8 * l2.length ≤ 8 * l1.length + 1 by have h1 := HGQ.out; rw [HQ9.out] at h1; obtain ⟨g1, g2, g3⟩ := h1; rw [← HER.out, sM_er] at g2; exact g2)
          have HSZ4 := hide (show sL (L ++ [t]) ≤ 4001 by have := HSZT.out; have := HSZ.out; rw [sL_app]; simp only [sL]; omega)
          clear hv4 hg4 h5 hm4 hown4 hall4
          go_wp2_with fail
          refine (HTK.out _ (HM4.out.pl HP0.out)).mono ?_
          rintro e w5 ⟨rfl, hm5⟩
          have M5 : Hid (Rv (w.alloc (.cells #[.int .i64 0, .string ⟨#[]⟩, .bool false, .slice none 0 0, .int .i64 0, .int .i64 0, .bool false, .slice none 0 0] 25)) w5 b zs (if true = true then tlC l2 else l2)) := hide (HM4.out.trans hm5)
          have HROW5 := hide (own_rv HROW4.out hm5.1 (Nat.lt_succ_of_lt HBW.out))
          have HALL5 := hide (show (∀ x ∈ L ++ [t], (RxAt w5 x ∧ ∀ g, (Value.slice B (L ++ [t]).length d9).ownBlock = some g → Off g x) ∧ Fr (w.heap.size + 1) x) from fun x hx => ⟨⟨rx_kept (HALL4.out x hx).1.1 (HALL4.out x hx).2 (rv_kept hm5 (Nat.lt_succ_of_lt HBW.out)), (HALL4.out x hx).1.2⟩, (HALL4.out x hx).2⟩)
          clear hm5
          simp only [if_true] at M5
          have HTS := hide (show (tlC l2).length < l2.length from hd_ne HQT.out)
          have HO4 := hide (show altsP deep pat n ((L ++ [t]).map er) (tlC l2) = res by have := HO2.out; rw [HQ9.out] at this; simp only at this; rw [HQT.out, if_pos rfl, ← HER.out] at this; rw [List.map_append]; exact this)
          have HLEN := hide (show Value.slice B (L.length + 1) d9 = .slice B (L ++ [t]).length d9 by rw [HLL.out])
          have HNL := hide (show (tlC l2).length < n ∧ (L ++ [t]).length + (tlC l2).length ≤ 256 by have := HL21.out; have := HTS.out; have := HN1.out; rw [HLL.out]; omega)
          have HSZ5 := hide (show sL (L ++ [t]) + 8 * (tlC l2).length ≤ 4000 by have := HSZT.out; have := HTS.out; have := HSZ.out; rw [sL_app]; simp only [sL]; omega)
          have HMS := hide (show zs.length - posOf w5 b < zs.length - posOf wo b by rw [posOf_rv M5.out, posOf_rv HM.out]; have := spl_lt HM.out.2 M5.out.2 (by have := HL21.out; have := HTS.out; omega); have := HPL.out.le; omega)
          go_wp2
          refine ⟨?_, HMS.out⟩
          first
            | exact ⟨L ++ [t], tlC l2, n, B, d9, HLEN.out, HROW5, M5, HO4, HNL.out.1, HNL.out.2, HSZ5, HALL5⟩
            | ((repeat apply Exists.intro); exact ⟨⟨L ++ [t], tlC l2, n, B, d9, HLEN.out, HROW5, M5, HO4, HNL.out.1, HNL.out.2, HSZ5, HALL5⟩, rfl⟩)
        have hq41 : (hdC l2 == [41]) = true := by
          unfold endB at hE
          rw [hqt] at hE
          rcases hb : l2.isEmpty with _ | _
          · rw [hb] at hE; simpa using hE
          · exact absurd (List.isEmpty_iff.1 hb) h0
        obtain ⟨yC, zC⟩ := lit_eq C #[124] false (by rw [hCd]; exact hqt)
        obtain ⟨yD, zD⟩ := lit_eq C #[41] true (by rw [hCd]; exact hq41)
        clear hqt ho3 hE h0 hCd hk hle hlt hq41
        go_wp2_with fail
        refine wp_region_later (by kernel_rfl) (by kernel_rfl) ?_
        repeat (go_big_quiet_step (first | (go_at_call 56; exact later_call (HSE.out _)) | exact rfl))
        refine wpQuiet_nil ?_
        rintro w9 ⟨⟨_, hb9⟩, rfl⟩
        have HMI9 := hide (HMI.out.bl hb9)
        have HSQ := hide (rseqf_any (N := wo.heap.size) (.slice A2 L2.length c2) L2 w9 (ksat_below (own_ksat HROW2.out) hb9) (fun i hi => rx_below (HALL2.out _ (List.getElem_mem hi)).1.1 hb9) (by have := HSZ2.out; omega) (fun i hi => (HALL2.out _ (List.getElem_mem hi)).2) HMI9.out.1.grown.size)
        unfold RsfPost at HSQ
        clear p1 p2 hbi hb9 dk dk'
        go_wp2_with fail
        refine HSQ.out.mono ?_
        rintro e w3 ⟨t, rfl, hb3, hrx, her, hfr⟩
        have HMI3 := hide (HMI9.out.bl hb3)
        have M3 : Hid (Rv (w.alloc (.cells #[.int .i64 0, .string ⟨#[]⟩, .bool false, .slice none 0 0, .int .i64 0, .int .i64 0, .bool false, .slice none 0 0] 25)) w3 b zs l2) := hide (HM.out.trans HMI3.out)
        have HROW3 := hide (own_rv HROW.out HMI3.out.1 (Nat.lt_succ_of_lt HBW.out))
        have HER := hide (show er t = seqX (flK 0 (L2.map er)) by rw [flK_er]; exact her)
        have HFR := hide (hfr.mono HWW.out)
        have HOFF := hide (show ∀ g, (Value.slice A1 L.length c1).ownBlock = some g → Off g t from fun g hg => off_fr hfr (HG9.out g hg))
        have HALL3 := hide (show ∀ W, Below w3.heap.size w3 W → (∀ x ∈ L, (RxAt W x ∧ ∀ g, (Value.slice A1 L.length c1).ownBlock = some g → Off g x) ∧ Fr (w.heap.size + 1) x) from fun W hW x hx => ⟨⟨rx_below (rx_kept (HALL.out x hx).1.1 (HALL.out x hx).2 (rv_kept HMI3.out (Nat.lt_succ_of_lt HBW.out))) hW, (HALL.out x hx).1.2⟩, (HALL.out x hx).2⟩)
        obtain ⟨tA, tc, htrv⟩ := rwat_len hrx.rows
        obtain ⟨tB, td, htkv⟩ := ksat_len hrx.ks
        have HTV := hide (show t.v = .agg #[.int .i64 t.k, .string t.ch, .bool t.nt, .slice tA t.rows.length tc, .int .i64 t.mi, .int .i64 t.ma, .bool t.lz, .slice tB t.kids.length td] by unfold Rt.v Rt.cs; rw [htrv, htkv])
        have HCS := hide (show t.cs = [.int .i64 t.k, .string t.ch, .bool t.nt, .slice tA t.rows.length tc, .int .i64 t.mi, .int .i64 t.ma, .bool t.lz, .slice tB t.kids.length td] by unfold Rt.cs; rw [htrv, htkv])
        rw [HTV.out]
        have HRX := hide hrx
        have HONE := hide (show ∀ u ∈ ([.int .i64 t.k, .string t.ch, .bool t.nt, .slice tA t.rows.length tc, .int .i64 t.mi, .int .i64 t.ma, .bool t.lz, .slice tB t.kids.length td] : List Value), u.oneCell' = true by rw [← HCS.out]; intro u hu; exact one_cellX (w := w3) [t] (fun x hx => by obtain rfl : x = t := (by simpa using hx); exact HRX.out) u (by simpa [flatX] using hu))
        have HOWN := hide (fun (W : World) (hb : Below w3.heap.size w3 W) => own_below HROW3.out hb)
        have HB3 := hide (show w.heap.size + 1 ≤ w3.heap.size from Nat.le_trans HWW.out HMI3.out.1.grown.size)
        have HBB := hide (bl_alloc (bl_refl w3) (.cells #[.int .i64 t.k, .string t.ch, .bool t.nt, .slice tA t.rows.length tc, .int .i64 t.mi, .int .i64 t.ma, .bool t.lz, .slice tB t.kids.length td] 25))
        clear hb3 hrx hfr her htrv htkv
        go_wp2_with (at_builtin; go_must (refine wpList_src5 _ rfl _ _ 23 rfl (w.heap.size + 1) 25 i0 rt0.v 8 104 Try.underlying23 hi0 hz0' hz1 hz2 rfl (by decide) (.slice A1 L.length c1) L.length (flatX L) rfl (HOWN.out _ HBB.out) (some ⟨_, 0, none⟩) 1 1 [.int .i64 t.k, .string t.ch, .bool t.nt, .slice tA t.rows.length tc, .int .i64 t.mi, .int .i64 t.ma, .bool t.lz, .slice tB t.kids.length td] rfl (src_block (cs := #[.int .i64 t.k, .string t.ch, .bool t.nt, .slice tA t.rows.length tc, .int .i64 t.mi, .int .i64 t.ma, .bool t.lz, .slice tB t.kids.length td]) (heap_new (by simp)) rfl) HONE.out (by have := HN1.out; have := HN2.out; omega) (by decide) (Nat.le_trans HB3.out HBB.out.size) ?_); intro v' w19 hv4 hg4 h5)
        rw [← HCS.out] at hv4
        obtain ⟨B, d9, rfl, hown4, hall4⟩ := row_step (HALL3.out _ HBB.out) (rx_below HRX.out HBB.out) HFR.out HOFF.out hv4 hg4 h5
        have hm4 := (M3.out.bl HBB.out).appendv (HOWN.out _ HBB.out) hg4 (Nat.lt_succ_of_lt HBW.out) (by simp)
        have HM4 := hide hm4
        have HROW4 := hide hown4
        have HALL4 := hide hall4
        have HLL := hide (show (L ++ [t]).length = L.length + 1 by simp)
        have HSZT := hide (show sM t + 8 * l2.length ≤ 8 * l1.length + 1 by have h1 := HGQ.out; rw [HQ9.out] at h1; obtain ⟨g1, g2, g3⟩ := h1; rw [← HER.out, sM_er] at g2; exact g2)
        have HSZ4 := hide (show sL (L ++ [t]) ≤ 4001 by have := HSZT.out; have := HSZ.out; rw [sL_app]; simp only [sL]; omega)
        clear hv4 hg4 h5 hm4 hown4 hall4
        go_wp2_with fail
        refine (HTK.out _ (HM4.out.pl HP0.out)).mono ?_
        rintro e w5 ⟨rfl, hm5⟩
        have M5 : Hid (Rv (w.alloc (.cells #[.int .i64 0, .string ⟨#[]⟩, .bool false, .slice none 0 0, .int .i64 0, .int .i64 0, .bool false, .slice none 0 0] 25)) w5 b zs (if false = true then tlC l2 else l2)) := hide (HM4.out.trans hm5)
        have HROW5 := hide (own_rv HROW4.out hm5.1 (Nat.lt_succ_of_lt HBW.out))
        have HALL5 := hide (show (∀ x ∈ L ++ [t], (RxAt w5 x ∧ ∀ g, (Value.slice B (L ++ [t]).length d9).ownBlock = some g → Off g x) ∧ Fr (w.heap.size + 1) x) from fun x hx => ⟨⟨rx_kept (HALL4.out x hx).1.1 (HALL4.out x hx).2 (rv_kept hm5 (Nat.lt_succ_of_lt HBW.out)), (HALL4.out x hx).1.2⟩, (HALL4.out x hx).2⟩)
        clear hm5
        simp only [Bool.false_eq_true, if_false] at M5
        have HRES := hide (show ∀ e w', RrPost w b zs (.ok (altX (flK 1 (L ++ [t]))) l2) e w' → RrPost w b zs res e w' from fun e w' h => by
          have := HO2.out
          rw [HQ9.out] at this
          simp only at this
          rw [HQT.out, if_neg (by decide), ← HER.out, show L.map er ++ [er t] = (L ++ [t]).map er by simp, flK_er] at this
          rw [← this]; exact h)
        have HSA := hide (raltf_any (N := w.heap.size + 1) (.slice B (L ++ [t]).length d9) (L ++ [t]) w5 (own_ksat HROW5.out) (fun i hi => (HALL5.out _ (List.getElem_mem hi)).1.1) (by have := HSZ4.out; omega) (fun i hi => (HALL5.out _ (List.getElem_mem hi)).2) (by have := M5.out.1.grown.size; simpa using this))
        unfold RsfPost at HSA
        rw [HLL.out] at HSA
        clear HO2
        go_wp2_with fail
        refine HSA.out.mono ?_
        rintro e w2 ⟨u, rfl, hb2, hrx2, hu, hfr2⟩
        have M2 : Hid (Rv (w.alloc (.cells #[.int .i64 0, .string ⟨#[]⟩, .bool false, .slice none 0 0, .int .i64 0, .int .i64 0, .bool false, .slice none 0 0] 25)) w2 b zs l2) := hide (M5.out.bl hb2)
        obtain ⟨z0, z1, z2, z3, z4, z5, z6, z7⟩ := (Z0.out.mv M2.out.1 HNB.out).eight
        have hf1 := (Z0.out.mv M2.out.1 HNB.out).f
        obtain ⟨uA, uc, hurv⟩ := rwat_len hrx2.rows
        obtain ⟨uB, ud, hukv⟩ := ksat_len hrx2.ks
        have HUV := hide (show u.v = .agg #[.int .i64 u.k, .string u.ch, .bool u.nt, .slice uA u.rows.length uc, .int .i64 u.mi, .int .i64 u.ma, .bool u.lz, .slice uB u.kids.length ud] by unfold Rt.v Rt.cs; rw [hurv, hukv])
        rw [HUV.out]
        have HRU := hide hrx2
        have HFU := hide hfr2
        have HU := hide hu
        clear hb2 hrx2 hfr2 hu hurv hukv
        go_wp2
        refine bodyPost_ret (v := .tuple #[.agg #[.int .i64 u.k, .string u.ch, .bool u.nt, .slice uA u.rows.length uc, .int .i64 u.mi, .int .i64 u.ma, .bool u.lz, .slice uB u.kids.length ud], .int .i64 0]) ?_ rfl (HRES.out _ _ ⟨u, by rw [HUV.out], (rv8 (HSELF.out.trans M2.out) HNB.out (Nat.le_refl _) _ _ _ _ _ _ _ _ _ _ _ _ _ _ _ _), rx_kept HRU.out HFU.out (kept8 _ (Nat.lt_succ_self _) _ _ _ _ _ _ _ _ _ _ _ _ _ _ _ _), HFU.out.mono (Nat.le_succ _), HU.out⟩)
        rw [results_cell2 rfl]
        go_simp
      · rw [if_neg hE] at ho3
        have hb1 : endB l2 = false := Bool.eq_false_iff.2 hE
        have h0 : l2 ≠ [] := by rintro rfl; exact hE rfl
        have hlt : k < N := by rw [split_cons h0, List.length_cons] at hk hle; omega
        have dk : decide ((k : Int) < (N : Int)) = true := decide_eq_true (by omega)
        have dk' : decide (k < N) = true := decide_eq_true (by omega)
        have HT := hide (fun W (hp : Rp W b A c zs l2) => HTM.out W l2 (by have := HN2.out; omega) hb1 hp)
        have hgq := HGD.out l2 h0
        unfold endB at hb1
        have k1 : (hdC l2 == [124]) = false := by cases q : (hdC l2 == [124]) <;> simp [q] at hb1 ⊢
        have k2 : (hdC l2 == [41]) = false := by cases q : (hdC l2 == [41]) <;> simp [q] at hb1 ⊢
        obtain ⟨yC, zC⟩ := lit_eq C #[124] false (by rw [hCd]; exact k1)
        obtain ⟨yD, zD⟩ := lit_eq C #[41] false (by rw [hCd]; exact k2)
        obtain ⟨p, hp⟩ : ∃ p, termP deep pat l2 = p := ⟨_, rfl⟩
        rw [hp] at HT ho3 hgq
        have HO3 := hide ho3
        clear hp ho3 hE hb1 h0 hCd hk hle hlt k1 k2
        go_wp2_with fail
        refine wp_region_later (by kernel_rfl) (by kernel_rfl) ?_
        repeat (go_big_quiet_step (first | (go_at_call 56; exact later_call (HSE.out _)) | exact rfl))
        refine wpQuiet_nil ?_
        rintro w9 ⟨⟨_, hb9⟩, rfl⟩
        have HMI9 := hide (HMI.out.bl hb9)
        have HROW9 := hide (own_below HROW2.out hb9)
        have HG29 := hide (show ∀ g, (Value.slice A2 L2.length c2).ownBlock = some g → g < w9.heap.size from fun g hg => Nat.lt_of_lt_of_le (HROW2.out.lt g hg).2 hb9.size)
        have HALL9 := hide (show (∀ x ∈ L2, (RxAt w9 x ∧ ∀ g, (Value.slice A2 L2.length c2).ownBlock = some g → Off g x) ∧ Fr wo.heap.size x) from fun x hx => ⟨⟨rx_below (HALL2.out x hx).1.1 hb9, (HALL2.out x hx).1.2⟩, (HALL2.out x hx).2⟩)
        clear p1 p2 hbi hb9 dk dk'
        go_wp2_with fail
        refine (HT.out _ (HMI9.out.pl HPL.out)).mono ?_
        intro e w3 hp
        rcases p with _ | n1 | ⟨x, r3⟩
        · exact hp.elim
        · obtain ⟨rfl, k3, hm3⟩ := hp
          have HRES := hide (show ∀ e w', RrPost w b zs (.err n1) e w' → RrPost w b zs res e w' from fun e w' h => by have h1 := HO3.out; simp only at h1; have := HO2.out; rw [← h1] at this; simp only at this; rw [← this]; exact h)
          have HMM := hide (((HSELF.out.trans (HM.out.trans HMI9.out)).1.trans hm3).bl (bl_alloc (bl_refl w3) (.cells #[.int .i64 0, .string ⟨#[]⟩, .bool false, .slice none 0 0, .int .i64 0, .int .i64 0, .bool false, .slice none 0 0] 25)))
          have Z3 := hide ((Z0.out.mv ((HM.out.trans HMI9.out).1.trans hm3) HNB.out).bl (bl_alloc (bl_refl w3) (.cells #[.int .i64 0, .string ⟨#[]⟩, .bool false, .slice none 0 0, .int .i64 0, .int .i64 0, .bool false, .slice none 0 0] 25)))
          rw [show rt0.v = .agg #[.int .i64 0, .string ⟨#[]⟩, .bool false, .slice none 0 0, .int .i64 0, .int .i64 0, .bool false, .slice none 0 0] from rfl]
          clear hm3 HO2 HO3
          obtain ⟨z0, z1, z2, z3, z4, z5, z6, z7⟩ := (Z3.out).eight
          have hf1 := (Z3.out).f
          rcases hgq with rfl | rfl
          · go_wp2
            refine bodyPost_ret (v := .tuple #[.agg #[.int .i64 0, .string ⟨#[]⟩, .bool false, .slice none 0 0, .int .i64 0, .int .i64 0, .bool false, .slice none 0 0], .int .i64 8]) ?_ rfl (HRES.out _ _ ⟨rfl, _, (mvd8 (HMM.out) HNB.out (Nat.le_refl _) _ _ _ _ _ _ _ _ _ _ _ _ _ _ _ _)⟩)
            rw [results_cell2 rfl]
            go_simp
          · go_wp2
            refine bodyPost_ret (v := .tuple #[.agg #[.int .i64 0, .string ⟨#[]⟩, .bool false, .slice none 0 0, .int .i64 0, .int .i64 0, .bool false, .slice none 0 0], .int .i64 10]) ?_ rfl (HRES.out _ _ ⟨rfl, _, (mvd8 (HMM.out) HNB.out (Nat.le_refl _) _ _ _ _ _ _ _ _ _ _ _ _ _ _ _ _)⟩)
            rw [results_cell2 rfl]
            go_simp
        · obtain ⟨t, rfl, hm3, hrx, hfr, her⟩ := hp
          subst her
          have ho4 := HO3.out
          simp only at ho4
          obtain ⟨gd1, gd2, _⟩ := hgq
          rw [sM_er] at gd2
          have HGT := hide (And.intro gd1 gd2)
          have HMI3 := hide (HMI9.out.trans hm3)
          have HROW3 := hide (own_rv HROW9.out hm3.1 HBR.out)
          have HFR := hide (hfr.mono HMI9.out.1.grown.size)
          have HOFF := hide (show ∀ g, (Value.slice A2 L2.length c2).ownBlock = some g → Off g t from fun g hg => off_fr hfr (HG29.out g hg))
          have HALL3 := hide (show ∀ W, Below w3.heap.size w3 W → (∀ x ∈ L2, (RxAt W x ∧ ∀ g, (Value.slice A2 L2.length c2).ownBlock = some g → Off g x) ∧ Fr wo.heap.size x) from fun W hW x hx => ⟨⟨rx_below (rx_kept (HALL9.out x hx).1.1 (HALL9.out x hx).2 (rv_kept hm3 HBR.out)) hW, (HALL9.out x hx).1.2⟩, (HALL9.out x hx).2⟩)
          obtain ⟨tA, tc, htrv⟩ := rwat_len hrx.rows
          obtain ⟨tB, td, htkv⟩ := ksat_len hrx.ks
          have HTV := hide (show t.v = .agg #[.int .i64 t.k, .string t.ch, .bool t.nt, .slice tA t.rows.length tc, .int .i64 t.mi, .int .i64 t.ma, .bool t.lz, .slice tB t.kids.length td] by unfold Rt.v Rt.cs; rw [htrv, htkv])
          have HCS := hide (show t.cs = [.int .i64 t.k, .string t.ch, .bool t.nt, .slice tA t.rows.length tc, .int .i64 t.mi, .int .i64 t.ma, .bool t.lz, .slice tB t.kids.length td] by unfold Rt.cs; rw [htrv, htkv])
          rw [HTV.out]
          have HRX := hide hrx
          have HONE := hide (show ∀ u ∈ ([.int .i64 t.k, .string t.ch, .bool t.nt, .slice tA t.rows.length tc, .int .i64 t.mi, .int .i64 t.ma, .bool t.lz, .slice tB t.kids.length td] : List Value), u.oneCell' = true by rw [← HCS.out]; intro u hu; exact one_cellX (w := w3) [t] (fun x hx => by obtain rfl : x = t := (by simpa using hx); exact HRX.out) u (by simpa [flatX] using hu))
          have HOWN := hide (fun (W : World) (hb : Below w3.heap.size w3 W) => own_below HROW3.out hb)
          have HB3 := hide (show wo.heap.size ≤ w3.heap.size from HMI3.out.1.grown.size)
          have HBB := hide (bl_alloc (bl_alloc (bl_refl w3) (.cells #[.int .i64 t.k, .string t.ch, .bool t.nt, .slice tA t.rows.length tc, .int .i64 t.mi, .int .i64 t.ma, .bool t.lz, .slice tB t.kids.length td] 25)) (.cells #[.int .i64 t.k, .string t.ch, .bool t.nt, .slice tA t.rows.length tc, .int .i64 t.mi, .int .i64 t.ma, .bool t.lz, .slice tB t.kids.length td] 25))
          have HO4 := hide (show termsP deep pat n2 ((L2 ++ [t]).map er) r3 = q by rw [List.map_append]; exact ho4)
          clear hm3 hrx hfr htrv htkv gd1 gd2 ho4
          go_wp2_with (at_builtin; go_must (refine wpList_src5 _ rfl _ _ 23 rfl (wo.heap.size) 25 i0 rt0.v 8 104 Try.underlying23 hi0 hz0' hz1 hz2 rfl (by decide) (.slice A2 L2.length c2) L2.length (flatX L2) rfl (HOWN.out _ HBB.out) (some ⟨_, 0, none⟩) 1 1 [.int .i64 t.k, .string t.ch, .bool t.nt, .slice tA t.rows.length tc, .int .i64 t.mi, .int .i64 t.ma, .bool t.lz, .slice tB t.kids.length td] rfl (src_block (cs := #[.int .i64 t.k, .string t.ch, .bool t.nt, .slice tA t.rows.length tc, .int .i64 t.mi, .int .i64 t.ma, .bool t.lz, .slice tB t.kids.length td]) (heap_new (by simp)) rfl) HONE.out (by have := HN1.out; have := HN2.out; omega) (by decide) (Nat.le_trans HB3.out HBB.out.size) ?_); intro v' w19 hv4 hg4 h5)
          rw [← HCS.out] at hv4
          obtain ⟨B, d9, rfl, hown4, hall4⟩ := row_step (HALL3.out _ HBB.out) (rx_below HRX.out HBB.out) HFR.out HOFF.out hv4 hg4 h5
          have hm4 := (HMI3.out.bl HBB.out).appendv (HOWN.out _ HBB.out) hg4 HBR.out (Nat.le_refl _)
          have HM4 := hide hm4
          have HROW4 := hide hown4
          have HALL4 := hide hall4
          have HLEN := hide (show Value.slice B (L2.length + 1) d9 = .slice B (L2 ++ [t]).length d9 by rw [List.length_append]; rfl)
          have HNL := hide (show r3.length < n2 ∧ (L2 ++ [t]).length + r3.length ≤ 256 ∧ r3.length ≤ l1.length by have := HGT.out.1; have := HN2.out; have := HL21.out; rw [List.length_append]; simp only [List.length_cons, List.length_nil]; omega)
          have HSZ4 := hide (show sL (L2 ++ [t]) + 8 * r3.length ≤ 4000 by have := HGT.out.2; have := HSZ2.out; rw [sL_app]; simp only [sL]; omega)
          have HMS := hide (show zs.length - posOf w19 b < zs.length - posOf wr b by rw [posOf_rv hm4, posOf_rv HMI.out]; have := spl_lt HMI.out.2 hm4.2 (by have := HGT.out.1; omega); have := HPI.out.le; omega)
          clear hv4 hg4 h5 hm4 hown4 hall4
          go_wp2
          refine ⟨?_, HMS.out⟩
          first
            | exact ⟨L2 ++ [t], r3, n2, B, d9, HLEN.out, HROW4, HM4, HO4, HNL.out.1, HNL.out.2.1, HSZ4, HNL.out.2.2, HALL4⟩
            | ((repeat apply Exists.intro); exact ⟨⟨L2 ++ [t], r3, n2, B, d9, HLEN.out, HROW4, HM4, HO4, HNL.out.1, HNL.out.2.1, HSZ4, HNL.out.2.2, HALL4⟩, rfl⟩)
/-- What is read of a pattern, as deep as may be. -/
theorem rpattern_any {b : Nat} {A : Option Addr} {c : Nat} {zs : List ByteArray} (hpr : ∀ z ∈ zs, properB z.data.toList = true) : ∀ (f d : Nat), d + f = 16 → ∀ (w : World) (l : List UInt8), l.length ≤ 256 → Rp w b A c zs l → Calls Try.prog 46 #[.pointer (some ⟨b, 0, none⟩), .int .i64 (d : Int)] w (RrPost w b zs (patP (f + 1) l)) := by
  intro f
  induction f with
  | zero =>
    intro d hd w l hl h
    have hd16 : d = 16 := by omega
    subst hd16
    have gt : ∀ l, l ≠ [] → Gd 1 0 l (termP true (patP 0) l) := term_gd (fun h => by cases h)
    exact rpattern_step h hl 16 true (patP 0) (fun W l' hl' he' h' => rterm_any h' hl' he' hpr 16 (Nat.le_refl _) (patP 0) (fun q => absurd q (Nat.lt_irrefl _)) (fun q => absurd q (Nat.lt_irrefl _)) _ rfl) gt (fun l => (terms_gd (fun h => by cases h) _ _ _ (Nat.lt_succ_self _)).mono (Nat.le_refl _) (by simp only [sL]; omega)) _ rfl
  | succ f ih =>
    intro d hd w l hl h
    have hp : false = false → ∀ l, Gd 0 2 l (patP (f + 1) l) := fun _ => pat_gd f
    have hdd : (d == 16) = false := by rw [Bool.eq_false_iff]; intro q; have := beq_iff_eq.1 q; omega
    exact rpattern_step h hl d false (patP (f + 1)) (fun W l' hl' he' h' => rterm_any h' hl' he' hpr d (by omega) (patP (f + 1)) (fun _ => hp rfl) (fun _ W2 l2 hl2 h2 => ih (d + 1) (by omega) W2 l2 hl2 h2) _ (by rw [hdd])) (term_gd hp) (fun l => (terms_gd hp _ _ _ (Nat.lt_succ_self _)).mono (Nat.le_refl _) (by simp only [sL]; omega)) _ rfl
end
section
open Go.ChangeShapes Go.WideShapes Go.ChangeAt Go.RowKit
open SetM
attribute [local go_sem ↓] Go.wp_at_zero Go.wp_at_succ
set_option maxRecDepth 100000
set_option linter.unusedVariables false
attribute [local go_sem] later_cell later_frozen
theorem split_proper : ∀ (n : Nat) (l : List UInt8), l.length < n → contH l = false → ∀ z ∈ splitL l, properB z = true
  | 0, l, h, _ => absurd h (Nat.not_lt_zero _)
  | n + 1, l, h, hc => by
    by_cases h0 : l = []
    · subst h0; intro z hz; cases hz
    · rw [split_cons h0]
      intro z hz
      rcases List.mem_cons.1 hz with rfl | hz
      · exact proper_hd hc h0
      · exact split_proper n (tlC l) (by have := tl_len l h0; omega) (contH_tl l) z hz
theorem split_len : ∀ (n : Nat) (l : List UInt8), l.length < n → (splitL l).length ≤ l.length ∧ ∀ z ∈ splitL l, z.length ≤ l.length
  | 0, l, h => absurd h (Nat.not_lt_zero _)
  | n + 1, l, h => by
    by_cases h0 : l = []
    · subst h0; exact ⟨Nat.le_refl _, fun z hz => by cases hz⟩
    · have h1 := tl_len l h0
      obtain ⟨h2, h3⟩ := split_len n (tlC l) (by omega)
      rw [split_cons h0]
      refine ⟨by rw [List.length_cons]; omega, fun z hz => ?_⟩
      rcases List.mem_cons.1 hz with rfl | hz
      · rw [hdC_len]; exact firstN_le l
      · have := h3 z hz; omega
theorem hd_bad {l : List UInt8} (h : contH l = true) (y : UInt8) (hy : contB y = false) : (hdC l == [y]) = false := by
  cases l with
  | nil => cases h
  | cons a l =>
    have e : hdC (a :: l) = a :: l.take (l.takeWhile contB).length := by
      show (a :: l).take (1 + (l.takeWhile contB).length) = _
      rw [Nat.add_comm, List.take_succ_cons]
    rw [e, Bool.eq_false_iff]
    intro q
    have := beq_iff_eq.1 q
    injection this with q1 _
    subst q1
    rw [show contB a = true from h] at hy
    cases hy
theorem proper_bad {l : List UInt8} (h : contH l = true) : properB (hdC l) = false := by
  cases l with
  | nil => cases h
  | cons a l =>
    have e : hdC (a :: l) = a :: l.take (l.takeWhile contB).length := by
      show (a :: l).take (1 + (l.takeWhile contB).length) = _
      rw [Nat.add_comm, List.take_succ_cons]
    rw [e]
    exact proper_cont _ (by simp) h
theorem rr_no {b : Nat} {A : Option Addr} {c : Nat} {zs : List ByteArray} {l : List UInt8} (hb : contH l = true) : ∀ (x : ByteArray) (y : UInt8), (x = ⟨#[y]⟩ ∧ contB y = false) → ∀ W, Rp W b A c zs l → Calls Try.prog 58 #[.pointer (some ⟨b, 0, none⟩), .string x] W fun e w' => e = .returned (.bool false) ∧ Rv W w' b zs l := by
  rintro x y ⟨rfl, hy⟩ W hp
  exact rr_take hp ⟨#[y]⟩ (by simp) false (hd_bad hb y hy)
set_option maxHeartbeats 16000000 in
theorem ratom_bad {w : World} {b : Nat} {A : Option Addr} {c : Nat} {zs : List ByteArray} {l : List UInt8} (h : Rp w b A c zs l) (hb : contH l = true) (d : Int) : Calls Try.prog 64 #[.pointer (some ⟨b, 0, none⟩), .int .i64 d] w (RrPost w b zs (.err 10)) := by
  have hbw := h.lt
  have HS := hide h
  have HNB := hide (show w.heap.size ≠ b by omega)
  have HP0 := hide (h.bl (bl_alloc (bl_refl w) (.cells #[.int .i64 0, .string ⟨#[]⟩, .bool false, .slice none 0 0, .int .i64 0, .int .i64 0, .bool false, .slice none 0 0] 25)))
  have HSELF := hide (HS.out.self (bl_alloc (bl_refl w) (.cells #[.int .i64 0, .string ⟨#[]⟩, .bool false, .slice none 0 0, .int .i64 0, .int .i64 0, .bool false, .slice none 0 0] 25)))
  have Z0 := hide (show Cl (w.alloc (.cells #[.int .i64 0, .string ⟨#[]⟩, .bool false, .slice none 0 0, .int .i64 0, .int .i64 0, .bool false, .slice none 0 0] 25)) w.heap.size [.int .i64 0, .string ⟨#[]⟩, .bool false, .slice none 0 0, .int .i64 0, .int .i64 0, .bool false, .slice none 0 0] from cl_alloc w [.int .i64 0, .string ⟨#[]⟩, .bool false, .slice none 0 0, .int .i64 0, .int .i64 0, .bool false, .slice none 0 0] _)
  obtain ⟨C, hC⟩ : ∃ C, bsC (hdC l) = C := ⟨_, rfl⟩
  have hCd : C.data.toList = hdC l := by rw [← hC, bsC_data]
  have hCz : C.size ≤ 100000 := by
    have h1 : C.size = (hdC l).length := by rw [← hCd]; exact (Array.length_toList).symm
    have := h.hd_le
    omega
  have HSE := hide (fun W (hp : Rp W b A c zs l) => rr_see hp C hC)
  have HPRO := hide (fun W => rproper_any C false W hCz (by rw [hCd]; exact proper_bad hb))
  have HTA0 := hide (rr_no (b := b) (A := A) (c := c) (zs := zs) hb ⟨#[46]⟩ 46 ⟨rfl, by decide⟩)
  have HTA1 := hide (rr_no (b := b) (A := A) (c := c) (zs := zs) hb ⟨#[40]⟩ 40 ⟨rfl, by decide⟩)
  have HTA2 := hide (rr_no (b := b) (A := A) (c := c) (zs := zs) hb ⟨#[91]⟩ 91 ⟨rfl, by decide⟩)
  have HTA3 := hide (rr_no (b := b) (A := A) (c := c) (zs := zs) hb ⟨#[92]⟩ 92 ⟨rfl, by decide⟩)
  obtain ⟨y0, z0'⟩ := lit_eq C #[42] false (by rw [hCd]; exact hd_bad hb 42 (by decide))
  obtain ⟨y1, z1'⟩ := lit_eq C #[43] false (by rw [hCd]; exact hd_bad hb 43 (by decide))
  obtain ⟨y2, z2'⟩ := lit_eq C #[63] false (by rw [hCd]; exact hd_bad hb 63 (by decide))
  obtain ⟨y3, z3'⟩ := lit_eq C #[41] false (by rw [hCd]; exact hd_bad hb 41 (by decide))
  obtain ⟨y4, z4'⟩ := lit_eq C #[123] false (by rw [hCd]; exact hd_bad hb 123 (by decide))
  obtain ⟨y5, z5'⟩ := lit_eq C #[124] false (by rw [hCd]; exact hd_bad hb 124 (by decide))
  clear h hb hbw hC hCd hCz
  go_enter Try.func64, Try.ntmps64
  go_wp2_with fail
  refine (HTA0.out _ HP0.out).mono ?_
  rintro e u0 ⟨rfl, hm⟩
  have N0 : Hid (Rv (w.alloc (.cells #[.int .i64 0, .string ⟨#[]⟩, .bool false, .slice none 0 0, .int .i64 0, .int .i64 0, .bool false, .slice none 0 0] 25)) u0 b zs l) := hide hm
  clear hm
  go_wp2_with fail
  refine (HTA1.out _ (N0.out.pl HP0.out)).mono ?_
  rintro e u1 ⟨rfl, hm⟩
  have N1 : Hid (Rv (w.alloc (.cells #[.int .i64 0, .string ⟨#[]⟩, .bool false, .slice none 0 0, .int .i64 0, .int .i64 0, .bool false, .slice none 0 0] 25)) u1 b zs l) := hide (N0.out.trans hm)
  clear hm
  go_wp2_with fail
  refine (HTA2.out _ (N1.out.pl HP0.out)).mono ?_
  rintro e u2 ⟨rfl, hm⟩
  have N2 : Hid (Rv (w.alloc (.cells #[.int .i64 0, .string ⟨#[]⟩, .bool false, .slice none 0 0, .int .i64 0, .int .i64 0, .bool false, .slice none 0 0] 25)) u2 b zs l) := hide (N1.out.trans hm)
  clear hm
  go_wp2_with fail
  refine (HTA3.out _ (N2.out.pl HP0.out)).mono ?_
  rintro e u3 ⟨rfl, hm⟩
  have N3 : Hid (Rv (w.alloc (.cells #[.int .i64 0, .string ⟨#[]⟩, .bool false, .slice none 0 0, .int .i64 0, .int .i64 0, .bool false, .slice none 0 0] 25)) u3 b zs l) := hide (N2.out.trans hm)
  clear hm
  go_wp2_with fail
  refine (HSE.out _ (N3.out.pl HP0.out)).mono ?_
  rintro e w2 ⟨rfl, hb2⟩
  have M2 : Hid (Rv (w.alloc (.cells #[.int .i64 0, .string ⟨#[]⟩, .bool false, .slice none 0 0, .int .i64 0, .int .i64 0, .bool false, .slice none 0 0] 25)) w2 b zs l) := hide (N3.out.bl hb2)
  clear hb2
  go_wp2_with fail
  refine (HPRO.out _).mono ?_
  rintro e w3 ⟨rfl, hb3⟩
  have M3 : Hid (Rv (w.alloc (.cells #[.int .i64 0, .string ⟨#[]⟩, .bool false, .slice none 0 0, .int .i64 0, .int .i64 0, .bool false, .slice none 0 0] 25)) w3 b zs l) := hide (M2.out.bl hb3)
  have M3w := hide (HSELF.out.trans M3.out)
  clear hb3
  obtain ⟨z0, z1, z2, z3, z4, z5, z6, z7⟩ := (Z0.out.mv M3.out.1 HNB.out).eight
  have hf1 := (Z0.out.mv M3.out.1 HNB.out).f
  go_wp2
  refine bodyPost_ret (v := .tuple #[.agg #[.int .i64 0, .string ⟨#[]⟩, .bool false, .slice none 0 0, .int .i64 0, .int .i64 0, .bool false, .slice none 0 0], .int .i64 10]) ?_ rfl ⟨rfl, _, (mvd8 (M3w.out.1) HNB.out (Nat.le_refl _) _ _ _ _ _ _ _ _ _ _ _ _ _ _ _ _)⟩
  rw [results_cell2 rfl]
  go_simp
set_option maxHeartbeats 16000000 in
theorem rterm_bad {w : World} {b : Nat} {A : Option Addr} {c : Nat} {zs : List ByteArray} {l : List UInt8} (h : Rp w b A c zs l) (hb : contH l = true) (d : Int) : Calls Try.prog 57 #[.pointer (some ⟨b, 0, none⟩), .int .i64 d] w (RrPost w b zs (.err 10)) := by
  have hbw := h.lt
  have HS := hide h
  have HNB := hide (show w.heap.size ≠ b by omega)
  have HP0 := hide (h.bl (bl_alloc (bl_refl w) (.cells #[.int .i64 0, .string ⟨#[]⟩, .bool false, .slice none 0 0, .int .i64 0, .int .i64 0, .bool false, .slice none 0 0] 25)))
  have HSELF := hide (HS.out.self (bl_alloc (bl_refl w) (.cells #[.int .i64 0, .string ⟨#[]⟩, .bool false, .slice none 0 0, .int .i64 0, .int .i64 0, .bool false, .slice none 0 0] 25)))
  have Z0 := hide (show Cl (w.alloc (.cells #[.int .i64 0, .string ⟨#[]⟩, .bool false, .slice none 0 0, .int .i64 0, .int .i64 0, .bool false, .slice none 0 0] 25)) w.heap.size [.int .i64 0, .string ⟨#[]⟩, .bool false, .slice none 0 0, .int .i64 0, .int .i64 0, .bool false, .slice none 0 0] from cl_alloc w [.int .i64 0, .string ⟨#[]⟩, .bool false, .slice none 0 0, .int .i64 0, .int .i64 0, .bool false, .slice none 0 0] _)
  have HAT := hide (fun W (hp : Rp W b A c zs l) => ratom_bad hp hb d)
  obtain ⟨C, hC⟩ : ∃ C, bsC (hdC l) = C := ⟨_, rfl⟩
  have hCd : C.data.toList = hdC l := by rw [← hC, bsC_data]
  have HSE0 := hide (fun W (hp : Rp W b A c zs l) => rr_see hp C hC)
  have HTA0 := hide (rr_no (b := b) (A := A) (c := c) (zs := zs) hb ⟨#[94]⟩ 94 ⟨rfl, by decide⟩)
  have HTA1 := hide (rr_no (b := b) (A := A) (c := c) (zs := zs) hb ⟨#[36]⟩ 36 ⟨rfl, by decide⟩)
  obtain ⟨yC, zC⟩ := lit_eq C #[92] false (by rw [hCd]; exact hd_bad hb 92 (by decide))
  clear h hb hbw hC hCd
  go_enter Try.func57, Try.ntmps57
  go_wp2_with fail
  refine (HTA0.out _ HP0.out).mono ?_
  rintro e u0 ⟨rfl, hm⟩
  have N0 : Hid (Rv (w.alloc (.cells #[.int .i64 0, .string ⟨#[]⟩, .bool false, .slice none 0 0, .int .i64 0, .int .i64 0, .bool false, .slice none 0 0] 25)) u0 b zs l) := hide hm
  clear hm
  go_wp2_with fail
  refine (HTA1.out _ (N0.out.pl HP0.out)).mono ?_
  rintro e u1 ⟨rfl, hm⟩
  have N1 : Hid (Rv (w.alloc (.cells #[.int .i64 0, .string ⟨#[]⟩, .bool false, .slice none 0 0, .int .i64 0, .int .i64 0, .bool false, .slice none 0 0] 25)) u1 b zs l) := hide (N0.out.trans hm)
  clear hm
  have HP5 := hide (N1.out.pl HP0.out)
  have HSE := hide (fun (u : Later u1) => HSE0.out u.now (HP5.out.bl u.below))
  go_wp2_with fail
  refine wp_region_later (by kernel_rfl) (by kernel_rfl) ?_
  repeat (go_big_quiet_step (first | (go_at_call 56; exact later_call (HSE.out _)) | exact rfl))
  refine wpQuiet_nil ?_
  rintro w5 ⟨⟨_, hb5⟩, rfl⟩
  have HP8 := hide (HP5.out.bl hb5)
  have HSE8 := hide (fun (u : Later w5) => HSE0.out u.now (HP8.out.bl u.below))
  go_wp2_with fail
  refine wp_region_later (by kernel_rfl) (by kernel_rfl) ?_
  repeat (go_big_quiet_step (first | (go_at_call 56; exact later_call (HSE8.out _)) | exact rfl))
  refine wpQuiet_nil ?_
  rintro w8 ⟨⟨_, hb8⟩, rfl⟩
  have M8a : Hid (Rv (w.alloc (.cells #[.int .i64 0, .string ⟨#[]⟩, .bool false, .slice none 0 0, .int .i64 0, .int .i64 0, .bool false, .slice none 0 0] 25)) w8 b zs l) := hide ((N1.out.bl hb5).bl hb8)
  clear hb5 hb8
  have M8w := hide (HSELF.out.trans M8a.out)
  have Z8 := hide (Z0.out.mv M8a.out.1 HNB.out)
  go_wp2_with fail
  refine (HAT.out _ (M8a.out.pl HP0.out)).mono ?_
  rintro e w3 ⟨rfl, k3, hm3⟩
  have HMM := hide ((M8w.out.1.trans hm3).bl (bl_alloc (bl_refl w3) (.cells #[.int .i64 0, .string ⟨#[]⟩, .bool false, .slice none 0 0, .int .i64 0, .int .i64 0, .bool false, .slice none 0 0] 25)))
  rw [show rt0.v = .agg #[.int .i64 0, .string ⟨#[]⟩, .bool false, .slice none 0 0, .int .i64 0, .int .i64 0, .bool false, .slice none 0 0] from rfl]
  have Z3 := hide ((Z8.out.mv hm3 HNB.out).bl (bl_alloc (bl_refl w3) (.cells #[.int .i64 0, .string ⟨#[]⟩, .bool false, .slice none 0 0, .int .i64 0, .int .i64 0, .bool false, .slice none 0 0] 25)))
  clear hm3
  obtain ⟨z0, z1, z2, z3, z4, z5, z6, z7⟩ := (Z3.out).eight
  have hf1 := (Z3.out).f
  go_wp2
  refine bodyPost_ret (v := .tuple #[.agg #[.int .i64 0, .string ⟨#[]⟩, .bool false, .slice none 0 0, .int .i64 0, .int .i64 0, .bool false, .slice none 0 0], .int .i64 10]) ?_ rfl ⟨rfl, _, (mvd8 (HMM.out) HNB.out (Nat.le_refl _) _ _ _ _ _ _ _ _ _ _ _ _ _ _ _ _)⟩
  rw [results_cell2 rfl]
  go_simp
set_option maxHeartbeats 16000000 in
theorem rpattern_bad {w : World} {b : Nat} {A : Option Addr} {c : Nat} {zs : List ByteArray} {l : List UInt8} (h : Rp w b A c zs l) (hb : contH l = true) (d : Int) : Calls Try.prog 46 #[.pointer (some ⟨b, 0, none⟩), .int .i64 d] w (RrPost w b zs (.err 10)) := by
  have hbw := h.lt
  have HS := hide h
  have HNB := hide (show w.heap.size ≠ b by omega)
  have HP0 := hide (h.bl (bl_alloc (bl_refl w) (.cells #[.int .i64 0, .string ⟨#[]⟩, .bool false, .slice none 0 0, .int .i64 0, .int .i64 0, .bool false, .slice none 0 0] 25)))
  have HSELF := hide (HS.out.self (bl_alloc (bl_refl w) (.cells #[.int .i64 0, .string ⟨#[]⟩, .bool false, .slice none 0 0, .int .i64 0, .int .i64 0, .bool false, .slice none 0 0] 25)))
  have Z0 := hide (show Cl (w.alloc (.cells #[.int .i64 0, .string ⟨#[]⟩, .bool false, .slice none 0 0, .int .i64 0, .int .i64 0, .bool false, .slice none 0 0] 25)) w.heap.size [.int .i64 0, .string ⟨#[]⟩, .bool false, .slice none 0 0, .int .i64 0, .int .i64 0, .bool false, .slice none 0 0] from cl_alloc w [.int .i64 0, .string ⟨#[]⟩, .bool false, .slice none 0 0, .int .i64 0, .int .i64 0, .bool false, .slice none 0 0] _)
  have HTM := hide (fun W (hp : Rp W b A c zs l) => rterm_bad hp hb d)
  obtain ⟨C, hC⟩ : ∃ C, bsC (hdC l) = C := ⟨_, rfl⟩
  have hCd : C.data.toList = hdC l := by rw [← hC, bsC_data]
  have HSE0 := hide (fun W (hp : Rp W b A c zs l) => rr_see hp C hC)
  obtain ⟨yC, zC⟩ := lit_eq C #[124] false (by rw [hCd]; exact hd_bad hb 124 (by decide))
  obtain ⟨yD, zD⟩ := lit_eq C #[41] false (by rw [hCd]; exact hd_bad hb 41 (by decide))
  have h0 : l ≠ [] := by rintro rfl; cases hb
  obtain ⟨N, hN⟩ : ∃ N, zs.length = N := ⟨_, rfl⟩
  obtain ⟨k, hk⟩ : ∃ k, zs.length - (splitL l).length = k := ⟨_, rfl⟩
  have p1 := h.row
  have p2 := h.pos
  rw [hk] at p2
  have hle := h.le
  rw [hN] at p1 hk hle
  have hlt : k < N := by rw [split_cons h0, List.length_cons] at hk hle; omega
  have dk : decide ((k : Int) < (N : Int)) = true := decide_eq_true (by omega)
  have dk' : decide (k < N) = true := decide_eq_true (by omega)
  have HSE := hide (fun (u : Later (w.alloc (.cells #[.int .i64 0, .string ⟨#[]⟩, .bool false, .slice none 0 0, .int .i64 0, .int .i64 0, .bool false, .slice none 0 0] 25))) => HSE0.out u.now (HP0.out.bl u.below))
  have hbw4 : b < w.heap.size + 1 := by omega
  have hbw5 : b ≠ w.heap.size := by omega
  clear h hb hC hCd h0 hk hle hlt
  go_enter Try.func46, Try.ntmps46
  go_wp2
  refine wp_loop_rounds 2 ?_
  rw [rounds_succ]
  go_wp2
  refine wp_loop_rounds 2 ?_
  rw [rounds_succ]
  go_wp2_with fail
  refine wp_region_later (by kernel_rfl) (by kernel_rfl) ?_
  repeat (go_big_quiet_step (first | (go_at_call 56; exact later_call (HSE.out _)) | exact rfl))
  refine wpQuiet_nil ?_
  rintro w9 ⟨⟨_, hb9⟩, rfl⟩
  have M9 := hide (HSELF.out.bl hb9)
  have Z9 := hide (Z0.out.bl hb9)
  have HP9 := hide (HP0.out.bl hb9)
  clear p1 p2 hbw hbw4 hbw5 hb9 dk dk'
  go_wp2_with fail
  refine (HTM.out _ HP9.out).mono ?_
  rintro e w3 ⟨rfl, k3, hm3⟩
  have HMM := hide ((M9.out.1.trans hm3).bl (bl_alloc (bl_refl w3) (.cells #[.int .i64 0, .string ⟨#[]⟩, .bool false, .slice none 0 0, .int .i64 0, .int .i64 0, .bool false, .slice none 0 0] 25)))
  rw [show rt0.v = .agg #[.int .i64 0, .string ⟨#[]⟩, .bool false, .slice none 0 0, .int .i64 0, .int .i64 0, .bool false, .slice none 0 0] from rfl]
  have Z3 := hide ((Z9.out.mv hm3 HNB.out).bl (bl_alloc (bl_refl w3) (.cells #[.int .i64 0, .string ⟨#[]⟩, .bool false, .slice none 0 0, .int .i64 0, .int .i64 0, .bool false, .slice none 0 0] 25)))
  clear hm3
  obtain ⟨z0, z1, z2, z3, z4, z5, z6, z7⟩ := (Z3.out).eight
  have hf1 := (Z3.out).f
  go_wp2
  refine bodyPost_ret (v := .tuple #[.agg #[.int .i64 0, .string ⟨#[]⟩, .bool false, .slice none 0 0, .int .i64 0, .int .i64 0, .bool false, .slice none 0 0], .int .i64 10]) ?_ rfl ⟨rfl, _, (mvd8 (HMM.out) HNB.out (Nat.le_refl _) _ _ _ _ _ _ _ _ _ _ _ _ _ _ _ _)⟩
  rw [results_cell2 rfl]
  go_simp
theorem rp_new {s : ByteArray} {base : Nat} {W : World} {A : Option Addr} {c : Nat} {zs : List ByteArray} (hs : s.size ≤ 256) (hown : W.ownsRow base 9 1 (.slice A zs.length c) zs.length (zs.map .string)) (hz : zs.map (fun z => z.data.toList) = splitL s.data.toList) :
    Rp (W.alloc (.cells #[.slice A zs.length c, .int .i64 0] 60)) W.heap.size A c zs s.data.toList := by
  have hl : s.data.toList.length = s.size := Array.length_toList
  obtain ⟨l1, l2⟩ := split_len _ s.data.toList (Nat.lt_succ_self _)
  have hzl : zs.length = (splitL s.data.toList).length := by rw [← hz, List.length_map]
  refine ⟨by go_simp, ?_, by go_simp, fun k hk => ?_, by rw [hz]; exact List.suffix_refl _, by omega, fun z hzm => ?_⟩
  · rw [hzl, Nat.sub_self]; go_simp
  · rcases own_form hown with ⟨_, h1, _⟩ | ⟨g, c', hv, h2, h3, h4, h5, hc⟩
    · omega
    · injection hv with hv _ _
      have h6 := hc k (.string zs[k]) (by simp [hk])
      refine ⟨g, hv, ?_, ?_⟩
      · have := World.block_lt_of_cell? _ _ h6
        exact Nat.ne_of_lt this
      · exact alloc_blk h6
  · have := l2 z.data.toList (by rw [← hz]; exact List.mem_map.2 ⟨z, hzm, rfl⟩)
    rw [show z.data.toList.length = z.size from Array.length_toList] at this
    omega
theorem mvd_below {w w1 w2 : World} {g k : Nat} (hb : Below w.heap.size w w1) (h : Mvd w1 w2 g 0 k) (hg : w.heap.size ≤ g) : Below w.heap.size w w2 :=
  bl_grown hb h.grown (fun k hk => by injection hk with hk; omega)
set_option maxHeartbeats 16000000 in
theorem rread_any (s : ByteArray) (hz : s.size ≤ 1000000) (w : World) (res : Res) (ho : readP s.data.toList = res) : Calls Try.prog 35 #[.string s] w (RdPost w res) := by
  have hl : s.data.toList.length = s.size := Array.length_toList
  unfold readP at ho
  rw [hl] at ho
  by_cases h1 : 256 < s.size
  · rw [if_pos h1] at ho
    subst ho
    have g1 : decide (256 < s.size) = true := decide_eq_true h1
    have g1' : decide (256 < (s.size : Int)) = true := decide_eq_true (by omega)
    go_enter Try.func35, Try.ntmps35
    go_wp2
    refine bodyPost_ret (v := .tuple #[.agg #[.int .i64 0, .string ⟨#[]⟩, .bool false, .slice none 0 0, .int .i64 0, .int .i64 0, .bool false, .slice none 0 0], .int .i64 4]) ?_ rfl ⟨rfl, bl_alloc (bl_refl w) _⟩
    rw [results_cell2 rfl]
    go_simp
  rw [if_neg h1] at ho
  have g1 : decide (256 < s.size) = false := decide_eq_false h1
  have g1' : decide (256 < (s.size : Int)) = false := decide_eq_false (by omega)
  have hs : s.size ≤ 256 := by omega
  have HSP := hide (fun W => rsplit_any s W (by omega))
  unfold SPost at HSP
  have HPT := hide (show ∀ (W : World) (A : Option Addr) (c : Nat) (zs : List ByteArray) (n : Nat), Rp W n A c zs s.data.toList → zs.map (fun z => z.data.toList) = splitL s.data.toList → Calls Try.prog 46 #[.pointer (some ⟨n, 0, none⟩), .int .i64 0] W (RrPost W n zs (if contH s.data.toList = true then .err 10 else patP 17 s.data.toList)) from by
    intro W A c zs n hp hzz
    by_cases h2 : contH s.data.toList = true
    · rw [if_pos h2]; exact rpattern_bad hp h2 0
    · rw [if_neg h2]
      have h3 := rpattern_any (b := n) (A := A) (c := c) (zs := zs) (fun z hzm => split_proper _ s.data.toList (Nat.lt_succ_self _) (Bool.eq_false_iff.2 h2) _ (by rw [← hzz]; exact List.mem_map.2 ⟨z, hzm, rfl⟩)) 16 0 rfl W s.data.toList (by omega) hp
      exact h3)
  have hgp := pat_gd 16 s.data.toList
  obtain ⟨p, hp⟩ : ∃ p, (if contH s.data.toList = true then Res.err 10 else patP 17 s.data.toList) = p := ⟨_, rfl⟩
  have ho : readE p = res := by
    rw [← ho, ← hp]
    split <;> rfl
  have hgp : p = .err 8 ∨ p = .err 10 ∨ ∃ x r, p = .ok x r := by
    rw [← hp]
    split
    · exact .inr (.inl rfl)
    · rcases hq : patP 17 s.data.toList with _ | n | ⟨x, r⟩
      · rw [hq] at hgp; exact hgp.elim
      · rw [hq] at hgp
        rcases hgp with rfl | rfl
        · exact .inl rfl
        · exact .inr (.inl rfl)
      · exact .inr (.inr ⟨x, r, rfl⟩)
  rw [hp] at HPT
  have HRN := hide (fun (W : World) (base : Nat) (A : Option Addr) (c : Nat) (zs : List ByteArray) (ho : W.ownsRow base 9 1 (.slice A zs.length c) zs.length (zs.map .string)) hz => rp_new (s := s) hs ho hz)
  have Z0 := hide (show Cl (w.alloc (.cells #[.int .i64 0, .string ⟨#[]⟩, .bool false, .slice none 0 0, .int .i64 0, .int .i64 0, .bool false, .slice none 0 0] 25)) w.heap.size [.int .i64 0, .string ⟨#[]⟩, .bool false, .slice none 0 0, .int .i64 0, .int .i64 0, .bool false, .slice none 0 0] from cl_alloc w [.int .i64 0, .string ⟨#[]⟩, .bool false, .slice none 0 0, .int .i64 0, .int .i64 0, .bool false, .slice none 0 0] _)
  clear hp hl h1 hz hs
  rcases hgp with rfl | rfl | ⟨x, r, rfl⟩
  · simp only [readE] at ho
    subst ho
    go_enter Try.func35, Try.ntmps35
    go_wp2_with fail
    refine (HSP.out _).mono ?_
    rintro e w1 ⟨v, zs, rfl, hb1, hown, hzs⟩
    obtain ⟨A, c, rfl⟩ := own_slice hown
    have RP := hide (HRN.out _ _ _ _ _ hown hzs.out)
    have HZS := hzs
    have Z1 := hide ((Z0.out.bl hb1).bl (bl_alloc (bl_refl w1) (.cells #[.slice A zs.length c, .int .i64 0] 60)))
    have hw1 : w.heap.size < w1.heap.size := by have := hb1.size; simp at this; omega
    have HW1 := hide hw1
    have HN1 := hide (show w.heap.size ≠ w1.heap.size by omega)
    have HB1 := hide (bl_alloc (bl_trans (bl_alloc (bl_refl w) _) hb1) (.cells #[.slice A zs.length c, .int .i64 0] 60))
    clear hb1 hown hw1
    go_wp2_with fail
    refine (HPT.out _ _ _ _ _ RP.out HZS.out).mono ?_
    rintro e w3 ⟨rfl, k3, hm3⟩
    have Z3 := hide ((Z1.out.mv hm3 HN1.out).bl (bl_alloc (bl_refl w3) (.cells #[.int .i64 0, .string ⟨#[]⟩, .bool false, .slice none 0 0, .int .i64 0, .int .i64 0, .bool false, .slice none 0 0] 25)))
    have HB3 := hide (bl_alloc (mvd_below HB1.out hm3 (Nat.le_of_lt HW1.out)) (.cells #[.int .i64 0, .string ⟨#[]⟩, .bool false, .slice none 0 0, .int .i64 0, .int .i64 0, .bool false, .slice none 0 0] 25))
    rw [show rt0.v = .agg #[.int .i64 0, .string ⟨#[]⟩, .bool false, .slice none 0 0, .int .i64 0, .int .i64 0, .bool false, .slice none 0 0] from rfl]
    clear hm3
    obtain ⟨z0, z1, z2, z3, z4, z5, z6, z7⟩ := (Z3.out).eight
    have hf1 := (Z3.out).f
    go_wp2
    go_quiet (fail)
    go_wp2
    refine bodyPost_ret (v := .tuple #[.agg #[.int .i64 0, .string ⟨#[]⟩, .bool false, .slice none 0 0, .int .i64 0, .int .i64 0, .bool false, .slice none 0 0], .int .i64 8]) ?_ rfl ⟨rfl, bl8 (bl_drewN HB3.out _) (Nat.le_refl _) _ _ _ _ _ _ _ _ _ _ _ _ _ _ _ _⟩
    rw [results_cell2 rfl]
    go_simp
  · simp only [readE] at ho
    subst ho
    go_enter Try.func35, Try.ntmps35
    go_wp2_with fail
    refine (HSP.out _).mono ?_
    rintro e w1 ⟨v, zs, rfl, hb1, hown, hzs⟩
    obtain ⟨A, c, rfl⟩ := own_slice hown
    have RP := hide (HRN.out _ _ _ _ _ hown hzs.out)
    have HZS := hzs
    have Z1 := hide ((Z0.out.bl hb1).bl (bl_alloc (bl_refl w1) (.cells #[.slice A zs.length c, .int .i64 0] 60)))
    have hw1 : w.heap.size < w1.heap.size := by have := hb1.size; simp at this; omega
    have HW1 := hide hw1
    have HN1 := hide (show w.heap.size ≠ w1.heap.size by omega)
    have HB1 := hide (bl_alloc (bl_trans (bl_alloc (bl_refl w) _) hb1) (.cells #[.slice A zs.length c, .int .i64 0] 60))
    clear hb1 hown hw1
    go_wp2_with fail
    refine (HPT.out _ _ _ _ _ RP.out HZS.out).mono ?_
    rintro e w3 ⟨rfl, k3, hm3⟩
    have Z3 := hide ((Z1.out.mv hm3 HN1.out).bl (bl_alloc (bl_refl w3) (.cells #[.int .i64 0, .string ⟨#[]⟩, .bool false, .slice none 0 0, .int .i64 0, .int .i64 0, .bool false, .slice none 0 0] 25)))
    have HB3 := hide (bl_alloc (mvd_below HB1.out hm3 (Nat.le_of_lt HW1.out)) (.cells #[.int .i64 0, .string ⟨#[]⟩, .bool false, .slice none 0 0, .int .i64 0, .int .i64 0, .bool false, .slice none 0 0] 25))
    rw [show rt0.v = .agg #[.int .i64 0, .string ⟨#[]⟩, .bool false, .slice none 0 0, .int .i64 0, .int .i64 0, .bool false, .slice none 0 0] from rfl]
    clear hm3
    obtain ⟨z0, z1, z2, z3, z4, z5, z6, z7⟩ := (Z3.out).eight
    have hf1 := (Z3.out).f
    go_wp2
    go_quiet (fail)
    go_wp2
    refine bodyPost_ret (v := .tuple #[.agg #[.int .i64 0, .string ⟨#[]⟩, .bool false, .slice none 0 0, .int .i64 0, .int .i64 0, .bool false, .slice none 0 0], .int .i64 10]) ?_ rfl ⟨rfl, bl8 (bl_drewN HB3.out _) (Nat.le_refl _) _ _ _ _ _ _ _ _ _ _ _ _ _ _ _ _⟩
    rw [results_cell2 rfl]
    go_simp
  simp only [readE] at ho
  rcases hq : r.isEmpty with _ | _
  · rw [hq, if_neg (by decide)] at ho
    subst ho
    go_enter Try.func35, Try.ntmps35
    go_wp2_with fail
    refine (HSP.out _).mono ?_
    rintro e w1 ⟨v, zs, rfl, hb1, hown, hzs⟩
    obtain ⟨A, c, rfl⟩ := own_slice hown
    have RP := hide (HRN.out _ _ _ _ _ hown hzs.out)
    have HZS := hzs
    have Z1 := hide ((Z0.out.bl hb1).bl (bl_alloc (bl_refl w1) (.cells #[.slice A zs.length c, .int .i64 0] 60)))
    have hw1 : w.heap.size < w1.heap.size := by have := hb1.size; simp at this; omega
    have HW1 := hide hw1
    have HN1 := hide (show w.heap.size ≠ w1.heap.size by omega)
    have HB1 := hide (bl_alloc (bl_trans (bl_alloc (bl_refl w) _) hb1) (.cells #[.slice A zs.length c, .int .i64 0] 60))
    clear hb1 hown hw1
    go_wp2_with fail
    refine (HPT.out _ _ _ _ _ RP.out HZS.out).mono ?_
    rintro e w3 ⟨t, rfl, hm3, hrx, hfr, her⟩
    have HER := hide her
    obtain ⟨tA, tc, htrv⟩ := rwat_len hrx.rows
    obtain ⟨tB, td, htkv⟩ := ksat_len hrx.ks
    have HTV := hide (show t.v = .agg #[.int .i64 t.k, .string t.ch, .bool t.nt, .slice tA t.rows.length tc, .int .i64 t.mi, .int .i64 t.ma, .bool t.lz, .slice tB t.kids.length td] by unfold Rt.v Rt.cs; rw [htrv, htkv])
    have HCS := hide (show t.cs = [.int .i64 t.k, .string t.ch, .bool t.nt, .slice tA t.rows.length tc, .int .i64 t.mi, .int .i64 t.ma, .bool t.lz, .slice tB t.kids.length td] by unfold Rt.cs; rw [htrv, htkv])
    rw [HTV.out]
    have HRX := hide hrx
    have HRP3 := hm3.pl RP.out
    have p1 := HRP3.row
    have p2 := HRP3.pos
    have hle := HRP3.le
    have hn3 : w1.heap.size < w3.heap.size := HRP3.lt
    have hn4 : w1.heap.size ≠ w3.heap.size := Nat.ne_of_lt hn3
    obtain ⟨k, hk⟩ : ∃ k, zs.length - (splitL r).length = k := ⟨_, rfl⟩
    obtain ⟨N, hN⟩ : ∃ N, zs.length = N := ⟨_, rfl⟩
    rw [hk] at p2
    rw [hN] at p1 hk hle
    have hr0 : r ≠ [] := by rintro rfl; cases hq
    have hkN : k < N := by rw [split_cons hr0, List.length_cons] at hk hle; omega
    have dk : decide ((k : Int) < (N : Int)) = true := decide_eq_true (by omega)
    have dk' : decide (k < N) = true := decide_eq_true hkN
    clear hr0 hkN
    have HZ3 := hide (Z1.out.mv hm3.1 HN1.out)
    have Z3 := hide (HZ3.out.bl (bl_alloc (bl_refl w3) (.cells #[.int .i64 t.k, .string t.ch, .bool t.nt, .slice tA t.rows.length tc, .int .i64 t.mi, .int .i64 t.ma, .bool t.lz, .slice tB t.kids.length td] 25)))
    have K3 := hide (show Cl (w3.alloc (.cells #[.int .i64 t.k, .string t.ch, .bool t.nt, .slice tA t.rows.length tc, .int .i64 t.mi, .int .i64 t.ma, .bool t.lz, .slice tB t.kids.length td] 25)) w3.heap.size [.int .i64 t.k, .string t.ch, .bool t.nt, .slice tA t.rows.length tc, .int .i64 t.mi, .int .i64 t.ma, .bool t.lz, .slice tB t.kids.length td] from cl_alloc w3 [.int .i64 t.k, .string t.ch, .bool t.nt, .slice tA t.rows.length tc, .int .i64 t.mi, .int .i64 t.ma, .bool t.lz, .slice tB t.kids.length td] _)
    have HB2 := hide (mvd_below HB1.out hm3.1 (Nat.le_of_lt HW1.out))
    have HB3 := hide (bl_alloc HB2.out (.cells #[.int .i64 t.k, .string t.ch, .bool t.nt, .slice tA t.rows.length tc, .int .i64 t.mi, .int .i64 t.ma, .bool t.lz, .slice tB t.kids.length td] 25))
    have HFR := hide (hfr.mono (show w.heap.size + 1 ≤ (w1.alloc (.cells #[.slice A zs.length c, .int .i64 0] 60)).heap.size by have := HW1.out; simp; omega))
    have hz3 : w.heap.size < w3.heap.size := HZ3.out.s
    have hzn : w.heap.size ≠ w3.heap.size := Nat.ne_of_lt hz3
    clear hm3 hrx hfr her htrv htkv HRP3 hle hk hN
    obtain ⟨k0, k1, k2, k3, k4, k5, k6, k7⟩ := K3.out.eight
    obtain ⟨z0, z1, z2, z3, z4, z5, z6, z7⟩ := (HZ3.out).eight
    have hf1 := (HZ3.out).f
    go_wp2
    go_quiet (fail)
    go_wp2
    refine bodyPost_ret (v := .tuple #[.agg #[.int .i64 0, .string ⟨#[]⟩, .bool false, .slice none 0 0, .int .i64 0, .int .i64 0, .bool false, .slice none 0 0], .int .i64 10]) ?_ rfl ⟨rfl, bl8 (bl_drewN HB3.out _) (Nat.le_refl _) _ _ _ _ _ _ _ _ _ _ _ _ _ _ _ _⟩
    rw [results_cell2 rfl]
    go_simp
  · rw [hq, if_pos rfl] at ho
    subst ho
    go_enter Try.func35, Try.ntmps35
    go_wp2_with fail
    refine (HSP.out _).mono ?_
    rintro e w1 ⟨v, zs, rfl, hb1, hown, hzs⟩
    obtain ⟨A, c, rfl⟩ := own_slice hown
    have RP := hide (HRN.out _ _ _ _ _ hown hzs.out)
    have HZS := hzs
    have Z1 := hide ((Z0.out.bl hb1).bl (bl_alloc (bl_refl w1) (.cells #[.slice A zs.length c, .int .i64 0] 60)))
    have hw1 : w.heap.size < w1.heap.size := by have := hb1.size; simp at this; omega
    have HW1 := hide hw1
    have HN1 := hide (show w.heap.size ≠ w1.heap.size by omega)
    have HB1 := hide (bl_alloc (bl_trans (bl_alloc (bl_refl w) _) hb1) (.cells #[.slice A zs.length c, .int .i64 0] 60))
    clear hb1 hown hw1
    go_wp2_with fail
    refine (HPT.out _ _ _ _ _ RP.out HZS.out).mono ?_
    rintro e w3 ⟨t, rfl, hm3, hrx, hfr, her⟩
    have HER := hide her
    obtain ⟨tA, tc, htrv⟩ := rwat_len hrx.rows
    obtain ⟨tB, td, htkv⟩ := ksat_len hrx.ks
    have HTV := hide (show t.v = .agg #[.int .i64 t.k, .string t.ch, .bool t.nt, .slice tA t.rows.length tc, .int .i64 t.mi, .int .i64 t.ma, .bool t.lz, .slice tB t.kids.length td] by unfold Rt.v Rt.cs; rw [htrv, htkv])
    have HCS := hide (show t.cs = [.int .i64 t.k, .string t.ch, .bool t.nt, .slice tA t.rows.length tc, .int .i64 t.mi, .int .i64 t.ma, .bool t.lz, .slice tB t.kids.length td] by unfold Rt.cs; rw [htrv, htkv])
    rw [HTV.out]
    have HRX := hide hrx
    have HRP3 := hm3.pl RP.out
    have p1 := HRP3.row
    have p2 := HRP3.pos
    have hle := HRP3.le
    have hn3 : w1.heap.size < w3.heap.size := HRP3.lt
    have hn4 : w1.heap.size ≠ w3.heap.size := Nat.ne_of_lt hn3
    obtain ⟨k, hk⟩ : ∃ k, zs.length - (splitL r).length = k := ⟨_, rfl⟩
    obtain ⟨N, hN⟩ : ∃ N, zs.length = N := ⟨_, rfl⟩
    rw [hk] at p2
    rw [hN] at p1 hk hle
    have hr0 : r = [] := List.isEmpty_iff.1 hq
    have hkN : k = N := by rw [hr0, split_nil, List.length_nil] at hk; omega
    have dk : decide ((k : Int) < (N : Int)) = false := decide_eq_false (by omega)
    have dk' : decide (k < N) = false := decide_eq_false (by omega)
    clear hr0 hkN
    have HZ3 := hide (Z1.out.mv hm3.1 HN1.out)
    have Z3 := hide (HZ3.out.bl (bl_alloc (bl_refl w3) (.cells #[.int .i64 t.k, .string t.ch, .bool t.nt, .slice tA t.rows.length tc, .int .i64 t.mi, .int .i64 t.ma, .bool t.lz, .slice tB t.kids.length td] 25)))
    have K3 := hide (show Cl (w3.alloc (.cells #[.int .i64 t.k, .string t.ch, .bool t.nt, .slice tA t.rows.length tc, .int .i64 t.mi, .int .i64 t.ma, .bool t.lz, .slice tB t.kids.length td] 25)) w3.heap.size [.int .i64 t.k, .string t.ch, .bool t.nt, .slice tA t.rows.length tc, .int .i64 t.mi, .int .i64 t.ma, .bool t.lz, .slice tB t.kids.length td] from cl_alloc w3 [.int .i64 t.k, .string t.ch, .bool t.nt, .slice tA t.rows.length tc, .int .i64 t.mi, .int .i64 t.ma, .bool t.lz, .slice tB t.kids.length td] _)
    have HB2 := hide (mvd_below HB1.out hm3.1 (Nat.le_of_lt HW1.out))
    have HB3 := hide (bl_alloc HB2.out (.cells #[.int .i64 t.k, .string t.ch, .bool t.nt, .slice tA t.rows.length tc, .int .i64 t.mi, .int .i64 t.ma, .bool t.lz, .slice tB t.kids.length td] 25))
    have HFR := hide (hfr.mono (show w.heap.size + 1 ≤ (w1.alloc (.cells #[.slice A zs.length c, .int .i64 0] 60)).heap.size by have := HW1.out; simp; omega))
    have hz3 : w.heap.size < w3.heap.size := HZ3.out.s
    have hzn : w.heap.size ≠ w3.heap.size := Nat.ne_of_lt hz3
    clear hm3 hrx hfr her htrv htkv HRP3 hle hk hN
    obtain ⟨k0, k1, k2, k3, k4, k5, k6, k7⟩ := K3.out.eight
    obtain ⟨z0, z1, z2, z3, z4, z5, z6, z7⟩ := (HZ3.out).eight
    have hf1 := (HZ3.out).f
    go_wp2
    go_quiet (fail)
    go_wp2
    refine bodyPost_ret (v := .tuple #[.agg #[.int .i64 t.k, .string t.ch, .bool t.nt, .slice tA t.rows.length tc, .int .i64 t.mi, .int .i64 t.ma, .bool t.lz, .slice tB t.kids.length td], .int .i64 0]) ?_ rfl ⟨t, by rw [HTV.out], bl8 (bl_drewN HB3.out _) (Nat.le_refl _) _ _ _ _ _ _ _ _ _ _ _ _ _ _ _ _, rx_kept (rx_below (rx_below HRX.out (bl_alloc (bl_refl _) _)) (bl_drewN (bl_refl _) _)) HFR.out (kept8 _ (Nat.lt_succ_self _) _ _ _ _ _ _ _ _ _ _ _ _ _ _ _ _), HFR.out.mono (Nat.le_succ _), HER.out⟩
    rw [results_cell2 rfl]
    go_simp
end
end Go.Proofs.Ytmfaeonlmfejdaa
