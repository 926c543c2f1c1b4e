/- Plain facts: a text's characters, told and read. No condition. -/
import Derived.Test.YtmacpmblodhcpaaGreatDoorPcC
namespace Go.Proofs.YtmacpmblodhcpaaGreatDoor
open SetM
set_option linter.unusedVariables false
theorem split_cons {l : List UInt8} (h : l ≠ []) : splitL l = hdC l :: splitL (tlC l) := splitL_eq l (List.length_pos_iff.2 h)
theorem split_all : ∀ (n : Nat) (l : List UInt8), l.length ≤ n → (splitL l).flatten = l ∧ (contH l = false → ∀ c ∈ splitL l, properB c = true) ∧ (splitL l).length ≤ l.length
  | 0, l, h => by
    have : l = [] := List.eq_nil_of_length_eq_zero (by omega)
    subst this
    exact ⟨rfl, fun _ c hc => (by cases hc), Nat.le_refl _⟩
  | n + 1, l, h => by
    by_cases h0 : l = []
    · subst h0; exact ⟨rfl, fun _ c hc => (by cases hc), Nat.le_refl _⟩
    · have ht := tl_len l h0
      obtain ⟨i1, i2, i3⟩ := split_all n (tlC l) (by omega)
      rw [split_cons h0]
      refine ⟨by rw [List.flatten_cons, i1, hd_tl], fun hc c hcc => ?_, by rw [List.length_cons]; omega⟩
      rcases List.mem_cons.1 hcc with rfl | hcc
      · exact proper_hd hc h0
      · exact i2 (contH_tl l) c hcc
theorem ch_len {c : List UInt8} (h : c ≠ []) : c.length ≤ (chSh mkA c).length ∧ (chSh mkA c).length ≤ 2 * c.length := by
  have h1 : 0 < c.length := List.length_pos_iff.2 h
  rcases chS_ways mkA c with ⟨y, z, rfl, hs, _⟩ | ⟨_, hs⟩ | ⟨_, hs⟩
  · rw [hs]; simp
  · rw [hs, List.length_cons]; omega
  · rw [hs]; omega
/-- The characters' parts. -/
def lvs (zs : List ByteArray) : List Rt := zs.map chX
theorem lvs_er (zs : List ByteArray) : (lvs zs).map er = lvs zs := map_self (fun x hx => by obtain ⟨z, _, rfl⟩ := List.mem_map.1 hx; rfl)
theorem lvs_k {zs : List ByteArray} {x : Rt} (h : x ∈ lvs zs) : x.k = 2 ∧ x.kids = [] ∧ ∃ z ∈ zs, x = chX z := by
  obtain ⟨z, hz, rfl⟩ := List.mem_map.1 h; exact ⟨rfl, rfl, z, hz, rfl⟩
theorem lvs_flK (zs : List ByteArray) : flK 0 (lvs zs) = lvs zs := flK_none (fun x hx => by rw [(lvs_k hx).1]; decide) (lvs_er zs)
theorem okM_ch {z : ByteArray} (h : properB z.data.toList = true) : okM (chX z) = true := okM_leaf (mf_char h) (show mkB 2 [] = true by decide) rfl
theorem lvs_seq {zs : List ByteArray} (h : ∀ z ∈ zs, properB z.data.toList = true) (hn : zs.length ≤ 100) (hz : ∀ z ∈ zs, z.size ≤ 1000) : cnB (seqX (lvs zs)) 16 512 = true ∧ gM (seqX (lvs zs)) = 0 ∧ er (seqX (lvs zs)) = seqX (lvs zs) ∧ sL (lvs zs) ≤ 1001 * zs.length := by
  have hl : (lvs zs).length = zs.length := by simp [lvs]
  have hp : ∀ zs : List ByteArray, pL (lvs zs) = zs.length ∧ dL (lvs zs) = 0 ∧ gL (lvs zs) = 0 := by
    intro zs
    induction zs with
    | nil => exact ⟨rfl, rfl, rfl⟩
    | cons a r ih =>
      have e1 : pL (lvs (a :: r)) = pM (chX a) + pL (lvs r) := rfl
      have e2 : dL (lvs (a :: r)) = max (dM (chX a)) (dL (lvs r)) := rfl
      have e3 : gL (lvs (a :: r)) = gM (chX a) + gL (lvs r) := rfl
      have f1 : pM (chX a) = 1 := by rw [pM_eq]; rfl
      have f2 : dM (chX a) = 0 := by rw [dM_eq]; rfl
      have f3 : gM (chX a) = 0 := by rw [gM_eq]; rfl
      rw [e1, e2, e3, f1, f2, f3, ih.1, ih.2.1, ih.2.2, List.length_cons]
      exact ⟨by omega, by omega, by omega⟩
  obtain ⟨p1, p2, p3⟩ := hp zs
  have hok : ∀ x ∈ lvs zs, okM x = true := fun x hx => by obtain ⟨_, _, z, hz, rfl⟩ := lvs_k hx; exact okM_ch (h z hz)
  refine ⟨cnB_of ?_ ?_ ?_, by rw [(dM_seqX _).2, p3], (seqX_gd _ (lvs_er zs)).2, ?_⟩
  · unfold seqX
    split
    · rename_i h1
      match hq : lvs zs, h1 with
      | [a], _ =>
        rw [hq] at p1
        have e1 : pL [a] = pM a + 0 := rfl
        show (pM a : Int) ≤ 512
        omega
    · rw [pM_eq]
      show ((1 + pL (lvs zs) : Nat) : Int) ≤ 512
      omega
  · rw [(dM_seqX _).1, p2]; decide
  · unfold seqX
    split
    · rename_i h1
      match hq : lvs zs, h1 with
      | [a], _ => exact hok a (by rw [hq]; exact List.mem_cons_self)
    · rename_i h1
      rw [okM_eq]
      show (mfB 0 ⟨#[]⟩ false [] 0 0 false && mkB 0 (lvs zs) && okL (lvs zs)) = true
      have e1 : mfB 0 ⟨#[]⟩ false [] 0 0 false = true := by decide
      have e2 : mkB 0 (lvs zs) = true := by
        unfold mkB
        rw [if_pos rfl]
        simp only [Bool.and_eq_true, Bool.not_eq_true', decide_eq_false_iff_not, List.all_eq_true]
        exact ⟨h1, fun x hx => by rw [(lvs_k hx).1]; rfl⟩
      rw [e1, e2, okL_all.2 hok]; rfl
  · have : ∀ zs : List ByteArray, (∀ z ∈ zs, z.size ≤ 1000) → sL (lvs zs) ≤ 1001 * zs.length := by
      intro zs
      induction zs with
      | nil => intro _; exact Nat.le_refl _
      | cons a r ih =>
        intro hz
        have i := ih (fun z hz2 => hz z (List.mem_cons_of_mem _ hz2))
        have ha := hz a List.mem_cons_self
        have e1 : sL (lvs (a :: r)) = sM (chX a) + sL (lvs r) := rfl
        have f1 : sM (chX a) = 1 + a.size := by rw [sM_eq]; show 1 + a.size + 0 + 0 = _; omega
        rw [e1, f1, List.length_cons]; omega
    exact this zs hz
theorem shX_ch (z : ByteArray) : shX (chX z) = chSh mkA z.data.toList := by rw [shX_eq]; rfl
theorem shX_lvs (zs : List ByteArray) : shX (seqX (lvs zs)) = zs.flatMap (fun z => chSh mkA z.data.toList) := by
  unfold seqX
  split
  · rename_i h1
    match zs, h1 with
    | [a], _ =>
      show shX (chX a) = _
      rw [shX_ch]; simp
  · rw [shX_eq]
    show joinS [] ((lvs zs).map shX) = _
    rw [join_nil]
    unfold lvs
    rw [List.map_map, List.flatMap_map]
    simp only [Function.comp, id, shX_ch]
theorem lvs_len {zs : List ByteArray} (h : ∀ z ∈ zs, properB z.data.toList = true) : (zs.map (fun z => z.data.toList)).flatten.length ≤ (shX (seqX (lvs zs))).length ∧ (shX (seqX (lvs zs))).length ≤ 2 * (zs.map (fun z => z.data.toList)).flatten.length := by
  rw [shX_lvs]
  induction zs with
  | nil => exact ⟨Nat.le_refl _, Nat.le_refl _⟩
  | cons a r ih =>
    obtain ⟨i1, i2⟩ := ih (fun z hz => h z (List.mem_cons_of_mem _ hz))
    have hc := ch_len (proper_is (h a List.mem_cons_self)).1
    rw [List.flatMap_cons, List.map_cons, List.flatten_cons, List.length_append, List.length_append]
    omega
/-- A text's characters from Split. -/
theorem zs_facts {l : List UInt8} {zs : List ByteArray} (hz : zs.map (fun z => z.data.toList) = splitL l) (hc : contH l = false) (hn : l.length ≤ 60) : (∀ z ∈ zs, properB z.data.toList = true) ∧ zs.length ≤ 60 ∧ (∀ z ∈ zs, z.size ≤ 60) ∧ (zs.map (fun z => z.data.toList)).flatten = l := by
  obtain ⟨s1, s2, s3⟩ := split_all l.length l (Nat.le_refl _)
  have hlen : zs.length ≤ 60 := by
    have := congrArg List.length hz
    rw [List.length_map] at this
    omega
  refine ⟨fun z hzz => s2 hc _ (by rw [← hz]; exact List.mem_map.2 ⟨z, hzz, rfl⟩), hlen, fun z hzz => ?_, by rw [hz, s1]⟩
  have hm : z.data.toList ∈ splitL l := by rw [← hz]; exact List.mem_map.2 ⟨z, hzz, rfl⟩
  have : z.data.toList.length ≤ (splitL l).flatten.length := (List.sublist_flatten_of_mem hm).length_le
  rw [s1] at this
  have h3 : z.data.toList.length = z.size := Array.length_toList
  omega
theorem zs_head {l : List UInt8} {zs : List ByteArray} (hz : zs.map (fun z => z.data.toList) = splitL l) (h0 : l ≠ []) : ∃ z r, zs = z :: r ∧ z.data.toList = hdC l ∧ properB (hdC l) = !contH l := by
  rw [split_cons h0] at hz
  match zs, hz with
  | z :: r, hz =>
    rw [List.map_cons] at hz
    injection hz with h1 h2
    refine ⟨z, r, rfl, h1, ?_⟩
    cases hc : contH l
    · exact proper_hd hc h0
    · match l, h0, hc with
      | a :: l, _, hc =>
        refine proper_cont _ ?_ ?_
        · rw [hdC_len]; exact firstN_pos _ (by simp)
        · have : (hdC (a :: l))[0]? = some a := by
            show ((a :: l).take (1 + (l.takeWhile contB).length))[0]? = _
            rw [Nat.add_comm, List.take_succ_cons]; rfl
          have h3 : 0 < (hdC (a :: l)).length := by rw [hdC_len]; exact firstN_pos _ (by simp)
          rw [List.getElem?_eq_getElem h3] at this
          rw [Option.some.inj this]; exact hc
theorem lvs_take (zs : List ByteArray) (k : Nat) (h : k < zs.length) : lvs (zs.take (k + 1)) = lvs (zs.take k) ++ [chX zs[k]] := by
  unfold lvs; rw [List.take_succ_eq_append_getElem h, List.map_append]; rfl
theorem flat_take (zs : List ByteArray) (k : Nat) (h : k < zs.length) : ((zs.take (k + 1)).map (fun z => z.data.toList)).flatten = ((zs.take k).map (fun z => z.data.toList)).flatten ++ zs[k].data.toList := by
  rw [List.take_succ_eq_append_getElem h, List.map_append, List.flatten_append]; simp
end Go.Proofs.YtmacpmblodhcpaaGreatDoor
