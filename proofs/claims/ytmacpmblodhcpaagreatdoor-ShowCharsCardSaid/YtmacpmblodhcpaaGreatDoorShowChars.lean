/- Any text, each of its characters as one that is taken, is told in at most twice its bytes, and is read as those characters. Conditions: none beyond the form's own. -/
import Derived.Test.YtmacpmblodhcpaaGreatDoorRows
import Derived.Test.YtmacpmblodhcpaaGreatDoorCards
import Derived.Test.YtmacpmblodhcpaaGreatDoorTie
import Derived.Lay
import Derived.LaidMore
import Derived.MakeChecks
import Derived.Stop.Joined
import Derived.SevenTiedAt
import Derived.Test.YtmacpmblodhcpaaGreatDoorArgs
import Derived.Test.YtmacpmblodhcpaaGreatDoorPcD
namespace Go.Proofs.YtmacpmblodhcpaaGreatDoor.showChars
open Go.Proofs.YtmacpmblodhcpaaGreatDoor
open Go.ChangeShapes Go.WideShapes Go.ChangeAt Go.RowKit Go.Deep
open Go.ChangeMaps (open_string shut_string)
set_option linter.unusedVariables false

theorem own : ownKnob Tryz.prog.godebug = none := by kernel_rfl
theorem laidOut : laidOutB Tryz.prog = true := by kernel_rfl
-- opt: 4000000
-- tied
open SetM
attribute [local go_sem ↓] Go.wp_at_zero Go.wp_at_succ
theorem own_strs {w3 wr : World} {base : Nat} {A : Option Addr} {c : Nat} {zs : List ByteArray} (h : w3.ownsRow base 9 1 (.slice A zs.length c) zs.length (zs.map .string)) (hb : Below w3.heap.size w3 wr) (k : Nat) (hk : k < zs.length) : ∃ b, A = some ⟨b, 0, none⟩ ∧ wr.cell? ⟨b, k, none⟩ = some (.string zs[k]) := by
  rcases own_form h with ⟨h1, h2⟩ | ⟨g, c2, h1, _, _, _, h3⟩
  · omega
  · injection h1 with h1
    refine ⟨g, h1, cell_later hb ?_⟩
    exact h3.2 k _ (by rw [List.getElem?_map, List.getElem?_eq_getElem hk]; rfl)
set_option maxRecDepth 100000 in
set_option maxHeartbeats 4000000 in
theorem walk (a0 : ByteArray) (w : World) (w0 : a0.size ≤ maxLen) (hT : laidMetH Tryz.prog Rows.showCharsRow.laid w) :
    Calls Tryz.prog 6 #[.string a0] w fun e w' => e = .returned (.bool true) ∧ Below w.heap.size w w' := by
  obtain ⟨i0, hi0, hz0', hz1, hz2⟩ := info_parts info_rx
  have HTAB := hide (pow_tab hT)
  have HAW := hide (fun W hb => awake15_any HTAB.out W hb)
  by_cases h1 : 60 < a0.size
  case pos =>
    have g1 : decide (60 < a0.size) = true := decide_eq_true h1
    have g1' : decide (60 < (a0.size : Int)) = true := decide_eq_true (by omega)
    clear h1
    go_enter Tryz.func6, Tryz.ntmps6
    go_wp2_with fail
    refine (HAW.out _ (bl_refl w)).mono ?_
    rintro e w1 ⟨rfl, hb1⟩
    have HB1 := hide (bl_trans (bl_refl w) hb1)
    clear hb1
    go_wp2
    go_ret
    exact ⟨rfl, HB1.out⟩
  have g1 : decide (60 < a0.size) = false := decide_eq_false h1
  have g1' : decide (60 < (a0.size : Int)) = false := decide_eq_false (by omega)
  have HSP := hide (fun W => rsplit_any a0 W (by omega))
  unfold SPost at HSP
  have HZ := hide (show a0.size ≤ 60 by omega)
  have hl0 : a0.data.toList.length = a0.size := Array.length_toList
  by_cases h0 : a0.size = 0
  case pos =>
    have g2 : decide (0 < a0.size) = false := decide_eq_false (by omega)
    have g2' : decide ((0 : Int) < (a0.size : Int)) = false := decide_eq_false (by omega)
    have hct : contH a0.data.toList = false := by rw [List.eq_nil_of_length_eq_zero (hl0.trans h0)]; rfl
    clear h0
    go_enter Tryz.func6, Tryz.ntmps6
    go_wp2_with fail
    refine (HSP.out _).mono ?_
    rintro e w3 ⟨v, zs, rfl, hb3, how, HZS⟩
    have HB3 := hide (bl_trans (bl_refl w) hb3)
    have hzf := zs_facts HZS.out hct (by omega)
    have HF := hide hzf
    obtain ⟨sA, sc, rfl⟩ := own_slice how
    have HOW := hide how
    have hlz : zs.length ≤ 60 := hzf.2.1
    have HL := hide hlz
    clear hb3 hzf how hct hl0 h1
    go_wp2
    go_loopw [3, 5] (fun v i wr => ∃ (k : Nat) (A : Option Addr) (c : Nat), i = .int .i64 k ∧ v = .slice A k c ∧ k ≤ zs.length ∧ Hid (wr.ownsRow w3.heap.size 25 8 (.slice A k c) k (flatX (lvs (zs.take k)))) ∧ Hid (Below w3.heap.size w3 wr)) (fun _ i _ => zs.length - (intOf i).toNat)
    case atStart => exact ⟨0, none, 0, rfl, rfl, Nat.zero_le _, hide ⟨rfl, .inl ⟨rfl, rfl⟩⟩, hide (bl_refl w3)⟩
    case round =>
      obtain ⟨k, A, c, rfl, rfl, hk, HROW, HBL⟩ := hrel
      by_cases hlt : k < zs.length
      case pos =>
        have gl : decide (k < zs.length) = true := decide_eq_true hlt
        have gl' : decide ((k : Int) < (zs.length : Int)) = true := decide_eq_true (by omega)
        have i1 : (k : Int) < (zs.length : Int) := by omega
        have e5 : IntKind.i64.wrap ((k : Int) + 1) = (k : Int) + 1 := by have := HL.out; rw [IntKind.wrap_i64]; omega
        obtain ⟨sb, hsb, hcell⟩ := own_strs HOW.out HBL.out k hlt
        subst hsb
        have HONE := hide (show ∀ u ∈ ([.int .i64 2, .string zs[k], .bool false, .slice none 0 0, .int .i64 0, .int .i64 0, .bool false, .slice none 0 0] : List Value), u.oneCell' = true by intro u hu; simp at hu; rcases hu with rfl | rfl | rfl | rfl | rfl | rfl | rfl | rfl <;> rfl)
        have HTK := hide (lvs_take zs k hlt)
        have hsz3 : w3.heap.size ≤ wr.heap.size := HBL.out.size
        have HSZ3 := hide hsz3
        have HK1 := hide (show k + 1 ≤ zs.length by omega)
        have HKL := hide (show k ≤ 60 by have := HL.out; omega)
        clear hk hsz3
        go_wp2_with (at_builtin; go_must (refine wpList_src5 _ rfl _ _ 23 rfl w3.heap.size 25 i0 rt0.v 8 104 Tryz.underlying23 hi0 hz0' hz1 hz2 rfl (by decide) (.slice A k c) k (flatX (lvs (zs.take k))) rfl (own_below HROW.out (bl_alloc (bl_refl wr) _)) (some ⟨_, 0, none⟩) 1 1 [.int .i64 2, .string zs[k], .bool false, .slice none 0 0, .int .i64 0, .int .i64 0, .bool false, .slice none 0 0] rfl (src_block (cs := #[.int .i64 2, .string zs[k], .bool false, .slice none 0 0, .int .i64 0, .int .i64 0, .bool false, .slice none 0 0]) (heap_new (by simp)) rfl) HONE.out (by have := HKL.out; omega) (by decide) (Nat.le_trans HSZ3.out (bl_alloc (bl_refl wr) _).size) ?_); intro v' w4 hv4 hg4 h5)
        obtain ⟨B, d, rfl⟩ := own_slice hv4
        have HROW4 := hide (show w4.ownsRow w3.heap.size 25 8 (.slice B (k + 1) d) (k + 1) (flatX (lvs (zs.take (k + 1)))) by
          rw [HTK.out, show flatX (lvs (zs.take k) ++ [chX zs[k]]) = flatX (lvs (zs.take k)) ++ [.int .i64 2, .string zs[k], .bool false, .slice none 0 0, .int .i64 0, .int .i64 0, .bool false, .slice none 0 0] by simp [flatX]; rfl]; exact hv4)
        have HBL4 := hide (bl_own (bl_trans HBL.out (bl_alloc (bl_refl wr) _)) (own_below HROW.out (bl_alloc (bl_refl wr) _)) hg4 (Nat.le_refl _))
        clear hv4 hg4 h5 hcell
        go_wp2
        refine ⟨?_, by have := HK1.out; simp [intOf]; omega⟩
        first
          | exact ⟨k + 1, B, d, rfl, rfl, HK1.out, HROW4, HBL4⟩
          | exact ⟨k + 1, B, d, by simp, rfl, HK1.out, HROW4, HBL4⟩
          | ((repeat apply Exists.intro); exact ⟨⟨k + 1, B, d, rfl, rfl, HK1.out, HROW4, HBL4⟩, rfl⟩)
      case neg =>
        obtain rfl : k = zs.length := by omega
        have gl : decide (zs.length < zs.length) = false := by simp
        have gl' : decide ((zs.length : Int) < (zs.length : Int)) = false := by simp
        have hrow := HROW.out
        rw [List.take_length] at hrow
        obtain ⟨f1, f2, f3, f4⟩ := HF.out
        obtain ⟨s1, s2, s3, s4⟩ := lvs_seq f1 (by omega) (fun z hz => by have := f3 z hz; omega)
        obtain ⟨s5, s6⟩ := lvs_len f1
        rw [f4] at s5 s6
        have hlvl : (lvs zs).length = zs.length := by simp [lvs]
        have HSQ := hide (seqf_any (.slice A zs.length c) (lvs zs) wr (by rw [← hlvl]; exact own_ksat (by rw [hlvl]; exact hrow)) (fun i hi => rx_leaf _ _ (by obtain ⟨_, _, z, _, h⟩ := lvs_k (List.getElem_mem hi); rw [h]; rfl) (by obtain ⟨_, _, z, _, h⟩ := lvs_k (List.getElem_mem hi); rw [h]; rfl) (by obtain ⟨_, _, z, _, h⟩ := lvs_k (List.getElem_mem hi); rw [h]; rfl) (by obtain ⟨_, _, z, _, h⟩ := lvs_k (List.getElem_mem hi); rw [h]; rfl)) (by omega))
        unfold SqfPost at HSQ
        rw [lvs_flK] at HSQ
        have hsm : sM (seqX (lvs zs)) ≤ 70000 := by have := (seqX_gd (lvs zs) (lvs_er zs)).1; omega
        have HSX := hide (And.intro s1 (And.intro s2 (And.intro s3 (And.intro hsm (And.intro s5 s6)))))
        have HF4 := hide f4
        have HBW := hide (bl_trans HB3.out HBL.out)
        clear hk hlt hrow s1 s2 s3 s4 s5 s6 hsm f1 f2 f3 f4 hlvl
        go_wp2_with fail
        refine HSQ.out.mono ?_
        rintro e w5 ⟨t, rfl, hb5, hrt, het, -⟩
        obtain ⟨tA, ta, tB, tb, htr, htk, htv⟩ := rx_vv hrt
        have hsh := rxshow_any HTAB.out (bl_trans HBW.out hb5) hrt (by rw [← sM_er, het]; have := HSX.out.2.2.2.1; omega) w5 (bl_refl w5)
        unfold ShowPost at hsh
        have hcn : cnB t 16 512 = true := by rw [cnB_er2 het]; exact HSX.out.1
        obtain ⟨q1, q2⟩ := shwS_yes hcn
        rw [q2] at hsh
        obtain ⟨S, hS⟩ : ∃ S, shwS t = S := ⟨_, rfl⟩
        have hSl : S.size = (shX (seqX (lvs zs))).length := by rw [← hS, q1, mkS_size, ← shX_er t, het]
        have hrd := shw_read hcn
        rw [hS] at hsh hrd
        have hb1 : S.size ≤ 120 := by have := HSX.out.2.2.2.2.2; have := HZ.out; have h3 : a0.data.toList.length = a0.size := Array.length_toList; omega
        have hlo : a0.size ≤ S.size := by have := HSX.out.2.2.2.2.1; have h3 : a0.data.toList.length = a0.size := Array.length_toList; omega
        have hhi : S.size ≤ 2 * a0.size := by have := HSX.out.2.2.2.2.2; have h3 : a0.data.toList.length = a0.size := Array.length_toList; omega
        rw [if_neg (by omega), het] at hrd
        have HSH := hide hsh
        have HRD := hide (fun W => read_any S (by omega) W _ hrd)
        unfold RdPost at HRD
        rw [htv] at HSH ⊢
        have HB5 := hide (bl_trans HBW.out hb5)
        have y1 : decide (2 * (a0.size : Int) < (S.size : Int)) = false := decide_eq_false (by omega)
        have y1' : decide (2 * a0.size < S.size) = false := decide_eq_false (by omega)
        have y2 : decide ((S.size : Int) < (a0.size : Int)) = false := decide_eq_false (by omega)
        have y2' : decide (S.size < a0.size) = false := decide_eq_false (by omega)
        have y3 : IntKind.i64.wrap (2 * (a0.size : Int)) = 2 * (a0.size : Int) := by have := HZ.out; rw [IntKind.wrap_i64]; omega
        clear hb5 hrt het htr htk htv hsh hcn q1 q2 hS hSl hrd hb1 hlo hhi gl gl'
        go_wp2_with fail
        refine HSH.out.mono ?_
        rintro e w6 ⟨rfl, hb6⟩
        have HB6 := hide (bl_trans HB5.out hb6)
        clear hb6
        go_wp2_with fail
        refine (HRD.out _).mono ?_
        rintro e w7 ⟨u, rfl, hb7, hru, -, hue⟩
        obtain ⟨uA, ua, uB, ub, hur, huk, huv⟩ := rx_vv hru
        rw [huv]
        have UR := hide hur
        have UK := hide huk
        have HUE := hide hue
        have hgu : gM u = 0 := by rw [← gM_er, hue]; exact HSX.out.2.1
        obtain ⟨W7, hW7⟩ : ∃ W, w7.alloc (.cells #[.int .i64 u.k, .string u.ch, .bool u.nt, .slice uA u.rows.length ua, .int .i64 u.mi, .int .i64 u.ma, .bool u.lz, .slice uB u.kids.length ub] 25) = W := ⟨_, rfl⟩
        have hb77 : Below w7.heap.size w7 W7 := by rw [← hW7]; exact bl_alloc (bl_refl w7) _
        have HCU := hide (show CxAt W7 w7.heap.size u by rw [← hW7]; exact cx_new w7 u hur huk)
        have HB7 := hide (bl_trans HB6.out (bl_trans hb7 hb77))
        have HRU := hide (rx_below hru hb77)
        have HG := hide (groups_any HRU.out (by have := pM_sM u; have h2 : sM u = sM (seqX (lvs zs)) := (by rw [← sM_er, hue]); have := HSX.out.2.2.2.1; omega) W7 (bl_refl W7))
        rw [hgu, huv] at HG
        obtain ⟨c0, c1, c2, c3, c4, c5, c6, c7⟩ := cx_8 HCU.out UR.out UK.out
        have hlt7 : w7.heap.size < W7.heap.size := World.block_lt_of_cell? _ _ c0
        clear hb7 hb77 hru hue hur huk huv hgu
        go_wp2_with fail
        refine HG.out.mono ?_
        rintro e w8 ⟨rfl, hb8⟩
        have HB8 := hide (bl_trans HB7.out hb8)
        have HRU8 := hide (rx_below HRU.out hb8)
        obtain ⟨d0, d1, d2, d3, d4, d5, d6, d7⟩ := cx_8 (cx_below HCU.out hb8) UR.out UK.out
        have hlt8 : w7.heap.size < w8.heap.size := World.block_lt_of_cell? _ _ d0
        clear hb8 c0 c1 c2 c3 c4 c5 c6 c7 hlt7
        by_cases hone : zs.length = 1
        case pos =>
          obtain ⟨z, rfl⟩ : ∃ z, zs = [z] := by
            match zs, hone with
            | [z], _ => exact ⟨z, rfl⟩
          have hue := HUE.out
          rw [show seqX (lvs [z]) = chX z from rfl] at hue
          obtain ⟨m1, m2, m3, m4, m5, m6, m7, m8⟩ := er_parts hue
          have k0 : (u.k == 2) = true := by rw [m1]; rfl
          have hkl : u.kids.length = 0 := by have := congrArg List.length m8; simpa using this
          have hza : z = a0 := by
            have h := HF4.out
            simp at h
            have h2 : z.data.toList = a0.data.toList := by simpa using h
            exact SetM.ext _ _ h2
          have gs : (a0.toList == a0.toList) = true := by simp
          rw [m2, hza] at d1
          rw [hkl] at d7
          clear hue m1 m2 m3 m4 m5 m6 m7 m8 hone hza
          go_wp2
          go_loopw [10, 11] (fun bv i wr => bv = .string a0 ∧ i = .int .i64 0 ∧ w8 = wr) (fun _ _ _ => 0)
          case atStart => exact ⟨rfl, rfl, rfl⟩
          case round =>
            obtain ⟨rfl, rfl, rfl⟩ := hrel
            go_wp2_with fail
            refine (HAW.out _ HB8.out).mono ?_
            rintro e w9 ⟨rfl, hb9⟩
            have HB9 := hide (bl_trans HB8.out hb9)
            clear hb9
            go_wp2
            go_ret
            exact ⟨rfl, HB9.out⟩
        case neg =>
          have hue := HUE.out
          rw [show seqX (lvs zs) = kdX 0 (lvs zs) by unfold seqX; rw [if_neg (by simpa [lvs] using hone)]] at hue
          obtain ⟨m1, m2, m3, m4, m5, m6, m7, m8⟩ := er_parts hue
          have k0 : (u.k == 2) = false := by rw [m1]; rfl
          have hkl : u.kids.length = zs.length := by have := congrArg List.length m8; simpa [lvs] using this
          have hkch : ∀ (k : Nat) (hk : k < u.kids.length) (hk2 : k < zs.length), (u.kids[k]).ch = zs[k] := by
            intro k hk hk2
            have h2 : (u.kids.map er)[k]? = (lvs zs)[k]? := by rw [m8]
            rw [List.getElem?_map, List.getElem?_eq_getElem hk] at h2
            rw [List.getElem?_eq_getElem (by simpa [lvs] using hk2)] at h2
            have h3 : er u.kids[k] = (lvs zs)[k]'(by simpa [lvs] using hk2) := Option.some.inj h2
            have h4 : (lvs zs)[k]'(by simpa [lvs] using hk2) = chX zs[k] := by simp [lvs]
            rw [h4] at h3
            exact (er_parts h3).2.1
          have HKC := hide hkch
          have HKL := hide hkl
          have HKS := hide (HRU8.out.ks)
          have HUK := hide UK.out
          rw [hkl] at d7
          have HD7 := hide d7
          clear hue m1 m2 m3 m4 m5 m6 m7 m8 hone hkch
          go_wp2
          go_loopw [10, 11] (fun bv i wr => ∃ (k : Nat) (T : ByteArray), i = .int .i64 k ∧ bv = .string T ∧ k ≤ zs.length ∧ Hid (T.data.toList = ((zs.take k).map (fun z => z.data.toList)).flatten) ∧ w8 = wr) (fun _ i _ => zs.length - (intOf i).toNat)
          case atStart => exact ⟨0, ⟨#[]⟩, rfl, rfl, Nat.zero_le _, hide rfl, rfl⟩
          case round =>
            obtain ⟨k, T, rfl, rfl, hk, HT, rfl⟩ := hrel
            have hTs : T.size ≤ 60 := by
              have h1 : T.data.toList.length = T.size := Array.length_toList
              have h2 : a0.data.toList.length = a0.size := Array.length_toList
              have h3 := HZ.out
              have h4 : (zs.map (fun z => z.data.toList)).flatten = ((zs.take k).map (fun z => z.data.toList)).flatten ++ ((zs.drop k).map (fun z => z.data.toList)).flatten := by
                rw [← List.flatten_append, ← List.map_append, List.take_append_drop]
              have h5 := congrArg List.length h4
              rw [HF4.out, ← HT.out, List.length_append] at h5
              omega
            by_cases hlt : k < zs.length
            case pos =>
              have gl : decide (k < zs.length) = true := decide_eq_true hlt
              have gl' : decide ((k : Int) < (zs.length : Int)) = true := decide_eq_true (by omega)
              have i1 : (k : Int) < (zs.length : Int) := by omega
              have e5 : IntKind.i64.wrap ((k : Int) + 1) = (k : Int) + 1 := by have := HL.out; rw [IntKind.wrap_i64]; omega
              obtain ⟨b1, o1, c1', hv1, hc1, hm1, hlb1, hcell1⟩ := ksat_8 HKS.out (by rw [hkl]; omega)
              obtain ⟨_, x1, _⟩ := hcell1 k (by rw [hkl]; exact hlt)
              rw [HKC.out k (by rw [hkl]; exact hlt) hlt] at x1
              rw [HUK.out] at hv1
              injection hv1 with hvb _ hvc
              subst hvb hvc
              have hzs : (zs[k]'hlt).size ≤ 60 := (HF.out.2.2.1) _ (List.getElem_mem hlt)
              have HT2 := hide (show (T ++ (zs[k]'hlt)).data.toList = ((zs.take (k + 1)).map (fun z => z.data.toList)).flatten by rw [flat_take zs k hlt, ← HT.out]; simp)
              have HK1 := hide (show k + 1 ≤ zs.length by omega)
              obtain ⟨zk, hzk⟩ : ∃ z, (zs[k]'hlt) = z := ⟨_, rfl⟩
              rw [hzk] at x1 hzs HT2
              unfold maxLen at hm1
              clear hcell1 hk hzk
              go_wp2
              refine ⟨?_, by have := HK1.out; simp [intOf]; omega⟩
              first
                | exact ⟨k + 1, _, rfl, rfl, HK1.out, HT2, by first | rfl | trivial⟩
                | exact ⟨k + 1, _, by simp, rfl, HK1.out, HT2, by first | rfl | trivial⟩
            case neg =>
              obtain rfl : k = zs.length := by omega
              have gl : decide (zs.length < zs.length) = false := by simp
              have gl' : decide ((zs.length : Int) < (zs.length : Int)) = false := by simp
              have hT := HT.out
              rw [List.take_length, HF4.out] at hT
              obtain rfl : T = a0 := SetM.ext _ _ hT
              have gs : (T.toList == T.toList) = true := by simp
              clear hT hk hlt hTs
              go_wp2_with fail
              refine (HAW.out _ HB8.out).mono ?_
              rintro e w9 ⟨rfl, hb9⟩
              have HB9 := hide (bl_trans HB8.out hb9)
              clear hb9
              go_wp2
              go_ret
              exact ⟨rfl, HB9.out⟩
  case neg =>
    have g2 : decide (0 < a0.size) = true := decide_eq_true (by omega)
    have g2' : decide ((0 : Int) < (a0.size : Int)) = true := decide_eq_true (by omega)
    have hne : a0.data.toList ≠ [] := by intro h; rw [h] at hl0; simp at hl0; omega
    have HNE := hide hne
    clear hne h0
    go_enter Tryz.func6, Tryz.ntmps6
    go_wp2_with fail
    refine (HSP.out _).mono ?_
    rintro e w1 ⟨v, zs, rfl, hb1, how, HZS⟩
    obtain ⟨z, r, rfl, hzh, hpr⟩ := zs_head HZS.out HNE.out
    obtain ⟨sA, sc, rfl⟩ := own_slice how
    obtain ⟨sb, hsb, hcell⟩ := own_strs how (bl_refl w1) 0 (by simp)
    subst hsb
    have i1 : (0 : Int) < (((z :: r).length : Nat) : Int) := by first | (simp; done) | (simp; omega)
    have hzz : z.size ≤ 60 := by
      have h1 : z.data.toList.length = z.size := Array.length_toList
      have h2 := hdC_len a0.data.toList
      have h3 := firstN_le a0.data.toList
      rw [hzh] at h1
      omega
    obtain ⟨pr, hprr⟩ : ∃ p, properB z.data.toList = p := ⟨_, rfl⟩
    have HPR := hide (fun W => rproper_any z pr W (by omega) hprr)
    have HB1 := hide hb1
    rw [hzh, hpr] at hprr
    have hz0 : (z :: r)[0] = z := rfl
    rw [hz0] at hcell
    obtain ⟨nn, hnn⟩ : ∃ n, (z :: r).length = n := ⟨_, rfl⟩
    rw [hnn] at i1 ⊢
    clear how hb1 hzh hpr HZS hzz hz0 hnn
    go_wp2_with fail
    refine (HPR.out _).mono ?_
    rintro e w2 ⟨rfl, hb2⟩
    have HB2 := hide (bl_trans HB1.out hb2)
    clear hb2 hcell i1
    cases pr
    case false =>
      clear hprr
      go_wp2_with fail
      refine (HAW.out _ HB2.out).mono ?_
      rintro e w9 ⟨rfl, hb9⟩
      have HB9 := hide (bl_trans HB2.out hb9)
      clear hb9
      go_wp2
      go_ret
      exact ⟨rfl, HB9.out⟩
    case true =>
      have hct : contH a0.data.toList = false := by simpa using hprr
      clear hprr HB1 HPR
      go_wp2_with fail
      refine (HSP.out _).mono ?_
      rintro e w3 ⟨v, zs, rfl, hb3, how, HZS⟩
      have HB3 := hide (bl_trans HB2.out hb3)
      have hzf := zs_facts HZS.out hct (by omega)
      have HF := hide hzf
      obtain ⟨sA, sc, rfl⟩ := own_slice how
      have HOW := hide how
      have hlz : zs.length ≤ 60 := hzf.2.1
      have HL := hide hlz
      clear hb3 hzf how hct hl0 h1
      go_wp2
      go_loopw [3, 5] (fun v i wr => ∃ (k : Nat) (A : Option Addr) (c : Nat), i = .int .i64 k ∧ v = .slice A k c ∧ k ≤ zs.length ∧ Hid (wr.ownsRow w3.heap.size 25 8 (.slice A k c) k (flatX (lvs (zs.take k)))) ∧ Hid (Below w3.heap.size w3 wr)) (fun _ i _ => zs.length - (intOf i).toNat)
      case atStart => exact ⟨0, none, 0, rfl, rfl, Nat.zero_le _, hide ⟨rfl, .inl ⟨rfl, rfl⟩⟩, hide (bl_refl w3)⟩
      case round =>
        obtain ⟨k, A, c, rfl, rfl, hk, HROW, HBL⟩ := hrel
        by_cases hlt : k < zs.length
        case pos =>
          have gl : decide (k < zs.length) = true := decide_eq_true hlt
          have gl' : decide ((k : Int) < (zs.length : Int)) = true := decide_eq_true (by omega)
          have i1 : (k : Int) < (zs.length : Int) := by omega
          have e5 : IntKind.i64.wrap ((k : Int) + 1) = (k : Int) + 1 := by have := HL.out; rw [IntKind.wrap_i64]; omega
          obtain ⟨sb, hsb, hcell⟩ := own_strs HOW.out HBL.out k hlt
          subst hsb
          have HONE := hide (show ∀ u ∈ ([.int .i64 2, .string zs[k], .bool false, .slice none 0 0, .int .i64 0, .int .i64 0, .bool false, .slice none 0 0] : List Value), u.oneCell' = true by intro u hu; simp at hu; rcases hu with rfl | rfl | rfl | rfl | rfl | rfl | rfl | rfl <;> rfl)
          have HTK := hide (lvs_take zs k hlt)
          have hsz3 : w3.heap.size ≤ wr.heap.size := HBL.out.size
          have HSZ3 := hide hsz3
          have HK1 := hide (show k + 1 ≤ zs.length by omega)
          have HKL := hide (show k ≤ 60 by have := HL.out; omega)
          clear hk hsz3
          go_wp2_with (at_builtin; go_must (refine wpList_src5 _ rfl _ _ 23 rfl w3.heap.size 25 i0 rt0.v 8 104 Tryz.underlying23 hi0 hz0' hz1 hz2 rfl (by decide) (.slice A k c) k (flatX (lvs (zs.take k))) rfl (own_below HROW.out (bl_alloc (bl_refl wr) _)) (some ⟨_, 0, none⟩) 1 1 [.int .i64 2, .string zs[k], .bool false, .slice none 0 0, .int .i64 0, .int .i64 0, .bool false, .slice none 0 0] rfl (src_block (cs := #[.int .i64 2, .string zs[k], .bool false, .slice none 0 0, .int .i64 0, .int .i64 0, .bool false, .slice none 0 0]) (heap_new (by simp)) rfl) HONE.out (by have := HKL.out; omega) (by decide) (Nat.le_trans HSZ3.out (bl_alloc (bl_refl wr) _).size) ?_); intro v' w4 hv4 hg4 h5)
          obtain ⟨B, d, rfl⟩ := own_slice hv4
          have HROW4 := hide (show w4.ownsRow w3.heap.size 25 8 (.slice B (k + 1) d) (k + 1) (flatX (lvs (zs.take (k + 1)))) by
            rw [HTK.out, show flatX (lvs (zs.take k) ++ [chX zs[k]]) = flatX (lvs (zs.take k)) ++ [.int .i64 2, .string zs[k], .bool false, .slice none 0 0, .int .i64 0, .int .i64 0, .bool false, .slice none 0 0] by simp [flatX]; rfl]; exact hv4)
          have HBL4 := hide (bl_own (bl_trans HBL.out (bl_alloc (bl_refl wr) _)) (own_below HROW.out (bl_alloc (bl_refl wr) _)) hg4 (Nat.le_refl _))
          clear hv4 hg4 h5 hcell
          go_wp2
          refine ⟨?_, by have := HK1.out; simp [intOf]; omega⟩
          first
            | exact ⟨k + 1, B, d, rfl, rfl, HK1.out, HROW4, HBL4⟩
            | exact ⟨k + 1, B, d, by simp, rfl, HK1.out, HROW4, HBL4⟩
            | ((repeat apply Exists.intro); exact ⟨⟨k + 1, B, d, rfl, rfl, HK1.out, HROW4, HBL4⟩, rfl⟩)
        case neg =>
          obtain rfl : k = zs.length := by omega
          have gl : decide (zs.length < zs.length) = false := by simp
          have gl' : decide ((zs.length : Int) < (zs.length : Int)) = false := by simp
          have hrow := HROW.out
          rw [List.take_length] at hrow
          obtain ⟨f1, f2, f3, f4⟩ := HF.out
          obtain ⟨s1, s2, s3, s4⟩ := lvs_seq f1 (by omega) (fun z hz => by have := f3 z hz; omega)
          obtain ⟨s5, s6⟩ := lvs_len f1
          rw [f4] at s5 s6
          have hlvl : (lvs zs).length = zs.length := by simp [lvs]
          have HSQ := hide (seqf_any (.slice A zs.length c) (lvs zs) wr (by rw [← hlvl]; exact own_ksat (by rw [hlvl]; exact hrow)) (fun i hi => rx_leaf _ _ (by obtain ⟨_, _, z, _, h⟩ := lvs_k (List.getElem_mem hi); rw [h]; rfl) (by obtain ⟨_, _, z, _, h⟩ := lvs_k (List.getElem_mem hi); rw [h]; rfl) (by obtain ⟨_, _, z, _, h⟩ := lvs_k (List.getElem_mem hi); rw [h]; rfl) (by obtain ⟨_, _, z, _, h⟩ := lvs_k (List.getElem_mem hi); rw [h]; rfl)) (by omega))
          unfold SqfPost at HSQ
          rw [lvs_flK] at HSQ
          have hsm : sM (seqX (lvs zs)) ≤ 70000 := by have := (seqX_gd (lvs zs) (lvs_er zs)).1; omega
          have HSX := hide (And.intro s1 (And.intro s2 (And.intro s3 (And.intro hsm (And.intro s5 s6)))))
          have HF4 := hide f4
          have HBW := hide (bl_trans HB3.out HBL.out)
          clear hk hlt hrow s1 s2 s3 s4 s5 s6 hsm f1 f2 f3 f4 hlvl
          go_wp2_with fail
          refine HSQ.out.mono ?_
          rintro e w5 ⟨t, rfl, hb5, hrt, het, -⟩
          obtain ⟨tA, ta, tB, tb, htr, htk, htv⟩ := rx_vv hrt
          have hsh := rxshow_any HTAB.out (bl_trans HBW.out hb5) hrt (by rw [← sM_er, het]; have := HSX.out.2.2.2.1; omega) w5 (bl_refl w5)
          unfold ShowPost at hsh
          have hcn : cnB t 16 512 = true := by rw [cnB_er2 het]; exact HSX.out.1
          obtain ⟨q1, q2⟩ := shwS_yes hcn
          rw [q2] at hsh
          obtain ⟨S, hS⟩ : ∃ S, shwS t = S := ⟨_, rfl⟩
          have hSl : S.size = (shX (seqX (lvs zs))).length := by rw [← hS, q1, mkS_size, ← shX_er t, het]
          have hrd := shw_read hcn
          rw [hS] at hsh hrd
          have hb1 : S.size ≤ 120 := by have := HSX.out.2.2.2.2.2; have := HZ.out; have h3 : a0.data.toList.length = a0.size := Array.length_toList; omega
          have hlo : a0.size ≤ S.size := by have := HSX.out.2.2.2.2.1; have h3 : a0.data.toList.length = a0.size := Array.length_toList; omega
          have hhi : S.size ≤ 2 * a0.size := by have := HSX.out.2.2.2.2.2; have h3 : a0.data.toList.length = a0.size := Array.length_toList; omega
          rw [if_neg (by omega), het] at hrd
          have HSH := hide hsh
          have HRD := hide (fun W => read_any S (by omega) W _ hrd)
          unfold RdPost at HRD
          rw [htv] at HSH ⊢
          have HB5 := hide (bl_trans HBW.out hb5)
          have y1 : decide (2 * (a0.size : Int) < (S.size : Int)) = false := decide_eq_false (by omega)
          have y1' : decide (2 * a0.size < S.size) = false := decide_eq_false (by omega)
          have y2 : decide ((S.size : Int) < (a0.size : Int)) = false := decide_eq_false (by omega)
          have y2' : decide (S.size < a0.size) = false := decide_eq_false (by omega)
          have y3 : IntKind.i64.wrap (2 * (a0.size : Int)) = 2 * (a0.size : Int) := by have := HZ.out; rw [IntKind.wrap_i64]; omega
          clear hb5 hrt het htr htk htv hsh hcn q1 q2 hS hSl hrd hb1 hlo hhi gl gl'
          go_wp2_with fail
          refine HSH.out.mono ?_
          rintro e w6 ⟨rfl, hb6⟩
          have HB6 := hide (bl_trans HB5.out hb6)
          clear hb6
          go_wp2_with fail
          refine (HRD.out _).mono ?_
          rintro e w7 ⟨u, rfl, hb7, hru, -, hue⟩
          obtain ⟨uA, ua, uB, ub, hur, huk, huv⟩ := rx_vv hru
          rw [huv]
          have UR := hide hur
          have UK := hide huk
          have HUE := hide hue
          have hgu : gM u = 0 := by rw [← gM_er, hue]; exact HSX.out.2.1
          obtain ⟨W7, hW7⟩ : ∃ W, w7.alloc (.cells #[.int .i64 u.k, .string u.ch, .bool u.nt, .slice uA u.rows.length ua, .int .i64 u.mi, .int .i64 u.ma, .bool u.lz, .slice uB u.kids.length ub] 25) = W := ⟨_, rfl⟩
          have hb77 : Below w7.heap.size w7 W7 := by rw [← hW7]; exact bl_alloc (bl_refl w7) _
          have HCU := hide (show CxAt W7 w7.heap.size u by rw [← hW7]; exact cx_new w7 u hur huk)
          have HB7 := hide (bl_trans HB6.out (bl_trans hb7 hb77))
          have HRU := hide (rx_below hru hb77)
          have HG := hide (groups_any HRU.out (by have := pM_sM u; have h2 : sM u = sM (seqX (lvs zs)) := (by rw [← sM_er, hue]); have := HSX.out.2.2.2.1; omega) W7 (bl_refl W7))
          rw [hgu, huv] at HG
          obtain ⟨c0, c1, c2, c3, c4, c5, c6, c7⟩ := cx_8 HCU.out UR.out UK.out
          have hlt7 : w7.heap.size < W7.heap.size := World.block_lt_of_cell? _ _ c0
          clear hb7 hb77 hru hue hur huk huv hgu
          go_wp2_with fail
          refine HG.out.mono ?_
          rintro e w8 ⟨rfl, hb8⟩
          have HB8 := hide (bl_trans HB7.out hb8)
          have HRU8 := hide (rx_below HRU.out hb8)
          obtain ⟨d0, d1, d2, d3, d4, d5, d6, d7⟩ := cx_8 (cx_below HCU.out hb8) UR.out UK.out
          have hlt8 : w7.heap.size < w8.heap.size := World.block_lt_of_cell? _ _ d0
          clear hb8 c0 c1 c2 c3 c4 c5 c6 c7 hlt7
          by_cases hone : zs.length = 1
          case pos =>
            obtain ⟨z, rfl⟩ : ∃ z, zs = [z] := by
              match zs, hone with
              | [z], _ => exact ⟨z, rfl⟩
            have hue := HUE.out
            rw [show seqX (lvs [z]) = chX z from rfl] at hue
            obtain ⟨m1, m2, m3, m4, m5, m6, m7, m8⟩ := er_parts hue
            have k0 : (u.k == 2) = true := by rw [m1]; rfl
            have hkl : u.kids.length = 0 := by have := congrArg List.length m8; simpa using this
            have hza : z = a0 := by
              have h := HF4.out
              simp at h
              have h2 : z.data.toList = a0.data.toList := by simpa using h
              exact SetM.ext _ _ h2
            have gs : (a0.toList == a0.toList) = true := by simp
            rw [m2, hza] at d1
            rw [hkl] at d7
            clear hue m1 m2 m3 m4 m5 m6 m7 m8 hone hza
            go_wp2
            go_loopw [10, 11] (fun bv i wr => bv = .string a0 ∧ i = .int .i64 0 ∧ w8 = wr) (fun _ _ _ => 0)
            case atStart => exact ⟨rfl, rfl, rfl⟩
            case round =>
              obtain ⟨rfl, rfl, rfl⟩ := hrel
              go_wp2_with fail
              refine (HAW.out _ HB8.out).mono ?_
              rintro e w9 ⟨rfl, hb9⟩
              have HB9 := hide (bl_trans HB8.out hb9)
              clear hb9
              go_wp2
              go_ret
              exact ⟨rfl, HB9.out⟩
          case neg =>
            have hue := HUE.out
            rw [show seqX (lvs zs) = kdX 0 (lvs zs) by unfold seqX; rw [if_neg (by simpa [lvs] using hone)]] at hue
            obtain ⟨m1, m2, m3, m4, m5, m6, m7, m8⟩ := er_parts hue
            have k0 : (u.k == 2) = false := by rw [m1]; rfl
            have hkl : u.kids.length = zs.length := by have := congrArg List.length m8; simpa [lvs] using this
            have hkch : ∀ (k : Nat) (hk : k < u.kids.length) (hk2 : k < zs.length), (u.kids[k]).ch = zs[k] := by
              intro k hk hk2
              have h2 : (u.kids.map er)[k]? = (lvs zs)[k]? := by rw [m8]
              rw [List.getElem?_map, List.getElem?_eq_getElem hk] at h2
              rw [List.getElem?_eq_getElem (by simpa [lvs] using hk2)] at h2
              have h3 : er u.kids[k] = (lvs zs)[k]'(by simpa [lvs] using hk2) := Option.some.inj h2
              have h4 : (lvs zs)[k]'(by simpa [lvs] using hk2) = chX zs[k] := by simp [lvs]
              rw [h4] at h3
              exact (er_parts h3).2.1
            have HKC := hide hkch
            have HKL := hide hkl
            have HKS := hide (HRU8.out.ks)
            have HUK := hide UK.out
            rw [hkl] at d7
            have HD7 := hide d7
            clear hue m1 m2 m3 m4 m5 m6 m7 m8 hone hkch
            go_wp2
            go_loopw [10, 11] (fun bv i wr => ∃ (k : Nat) (T : ByteArray), i = .int .i64 k ∧ bv = .string T ∧ k ≤ zs.length ∧ Hid (T.data.toList = ((zs.take k).map (fun z => z.data.toList)).flatten) ∧ w8 = wr) (fun _ i _ => zs.length - (intOf i).toNat)
            case atStart => exact ⟨0, ⟨#[]⟩, rfl, rfl, Nat.zero_le _, hide rfl, rfl⟩
            case round =>
              obtain ⟨k, T, rfl, rfl, hk, HT, rfl⟩ := hrel
              have hTs : T.size ≤ 60 := by
                have h1 : T.data.toList.length = T.size := Array.length_toList
                have h2 : a0.data.toList.length = a0.size := Array.length_toList
                have h3 := HZ.out
                have h4 : (zs.map (fun z => z.data.toList)).flatten = ((zs.take k).map (fun z => z.data.toList)).flatten ++ ((zs.drop k).map (fun z => z.data.toList)).flatten := by
                  rw [← List.flatten_append, ← List.map_append, List.take_append_drop]
                have h5 := congrArg List.length h4
                rw [HF4.out, ← HT.out, List.length_append] at h5
                omega
              by_cases hlt : k < zs.length
              case pos =>
                have gl : decide (k < zs.length) = true := decide_eq_true hlt
                have gl' : decide ((k : Int) < (zs.length : Int)) = true := decide_eq_true (by omega)
                have i1 : (k : Int) < (zs.length : Int) := by omega
                have e5 : IntKind.i64.wrap ((k : Int) + 1) = (k : Int) + 1 := by have := HL.out; rw [IntKind.wrap_i64]; omega
                obtain ⟨b1, o1, c1', hv1, hc1, hm1, hlb1, hcell1⟩ := ksat_8 HKS.out (by rw [hkl]; omega)
                obtain ⟨_, x1, _⟩ := hcell1 k (by rw [hkl]; exact hlt)
                rw [HKC.out k (by rw [hkl]; exact hlt) hlt] at x1
                rw [HUK.out] at hv1
                injection hv1 with hvb _ hvc
                subst hvb hvc
                have hzs : (zs[k]'hlt).size ≤ 60 := (HF.out.2.2.1) _ (List.getElem_mem hlt)
                have HT2 := hide (show (T ++ (zs[k]'hlt)).data.toList = ((zs.take (k + 1)).map (fun z => z.data.toList)).flatten by rw [flat_take zs k hlt, ← HT.out]; simp)
                have HK1 := hide (show k + 1 ≤ zs.length by omega)
                obtain ⟨zk, hzk⟩ : ∃ z, (zs[k]'hlt) = z := ⟨_, rfl⟩
                rw [hzk] at x1 hzs HT2
                unfold maxLen at hm1
                clear hcell1 hk hzk
                go_wp2
                refine ⟨?_, by have := HK1.out; simp [intOf]; omega⟩
                first
                  | exact ⟨k + 1, _, rfl, rfl, HK1.out, HT2, by first | rfl | trivial⟩
                  | exact ⟨k + 1, _, by simp, rfl, HK1.out, HT2, by first | rfl | trivial⟩
              case neg =>
                obtain rfl : k = zs.length := by omega
                have gl : decide (zs.length < zs.length) = false := by simp
                have gl' : decide ((zs.length : Int) < (zs.length : Int)) = false := by simp
                have hT := HT.out
                rw [List.take_length, HF4.out] at hT
                obtain rfl : T = a0 := SetM.ext _ _ hT
                have gs : (T.toList == T.toList) = true := by simp
                clear hT hk hlt hTs
                go_wp2_with fail
                refine (HAW.out _ HB8.out).mono ?_
                rintro e w9 ⟨rfl, hb9⟩
                have HB9 := hide (bl_trans HB8.out hb9)
                clear hb9
                go_wp2
                go_ret
                exact ⟨rfl, HB9.out⟩

set_option maxRecDepth 100000 in
theorem lifted (os : Os) (started : os.Started) (H : Type) (enc : TypeId × Value → H) :
    ReturnsInHanded {} Tryz.checked os 6 .any (fun w args => (Rows.showCharsSpec.pre enc Tryz.prog Tryz.f6 Rows.showCharsRow.domain false w args ∧ laidMetH Tryz.prog Rows.showCharsRow.laid w) ∧ sizedMet enc Tryz.prog Tryz.f6 (OpenSpec.ofChange Rows.showCharsSpec) false w args) (Rows.showCharsSpec.post enc Tryz.prog Tryz.f6 false true false false) := by
  refine returnsInHanded_of_change_and (C := Tryz.checked) (X := fun w _ => laidMetH Tryz.prog Rows.showCharsRow.laid w) (fun _ _ _ hh h => h.of_heap hh) own started (by kernel_rfl) Tryz.func6
    (ChangeSpec.witness_shaped (enc := enc) (C := Tryz.checked) (os := os) (X := fun w _ => laidMetH Tryz.prog Rows.showCharsRow.laid w) false (World.laidAll Tryz.prog os Rows.showCharsRow.laid) #[.string ByteArray.empty] 8 (World.laidAll_os _ _ _)
      (World.shaped_of_ZipB (by kernel_rfl) (by kernel_rfl)) (by kernel_rfl) (by kernel_rfl) (by kernel_rfl)
      (by rw [MakeChecks.laidMetH_plain _ _ _ (by kernel_rfl)]; exact laidMet_laidAll _ (by kernel_rfl) (by kernel_rfl))) ?_
  intro W base args ds gs before hval0 hW hcnd _ hL _
  have hval : ∀ (j : Nat) t v, Tryz.f6.params[j]? = some t → args[j]? = some v → Value.okWide Tryz.prog W .any base t v := hval0
  have hW' := hW
  obtain ⟨p, q, hA0, hV, rfl, hfz, hnd⟩ := hW
  have hA : DataW.TrodAll enc Tryz.prog W 0 (fun _ => true) true Tryz.f6.params.toList args.toList ds p := hA0
  rw [Tryz.params6] at hA hval
  obtain ⟨v0, vs0, d0, ds0, p0, q0, hargs, rfl, rfl, h0, r0⟩ := trodAll_cons hA
  obtain ⟨rfl, rfl, rfl⟩ := trodAll_nil r0
  obtain rfl : args = #[v0] := by cases args; simp_all
  obtain ⟨rfl, rfl⟩ := trodVars_none hV
  have k0 := h0
  have lt0 : ∀ x ∈ p0, x.block < W.heap.size := by obtain ⟨m, hm⟩ := k0; exact DataW.trod_lt m _ _ _ hm
  obtain ⟨a0, rfl, hd0, hp0, w0⟩ := open_string Tryz.underlying9 (hval 0 9 v0 rfl rfl) h0
  clear hA0 hval0
  refine (walk a0 W w0 hL).mono fun e W' ⟨he, bel⟩ => ?_
  subst he
  exact ⟨_, rfl, _, _, _, [], _, [], hW', trodAll_mk1 (shut_bool Tryz.underlying4 _), (trodAll_cons_mk (Below.trod laidOut (by kernel_rfl) (of_decide_eq_true (by kernel_rfl)) k0 bel lt0) trodAll_mk0), rfl, bel.frame _, fun h => by cases h⟩

theorem over : Rows.showCharsRow.holds Tryz.pinned (OpenSpec.ofChange Rows.showCharsSpec) :=
  OpenClaim.holds_of_wide 6 Tryz.f6 rfl rfl rfl rfl rfl rfl rfl ⟨rfl, rfl, rfl, rfl, rfl⟩ rfl rfl rfl rfl rfl (by kernel_rfl) Tryz.func6 (by kernel_rfl)
    (of_decide_eq_true (by kernel_rfl)) (by unfold Func.isWrapper; first | (rw [if_pos (by decide +kernel)]; kernel_rfl) | (rw [if_neg (by decide +kernel)]; exact ⟨rfl, rfl⟩))
    (fun os started H enc _ => lifted os started H enc)

set_option maxRecDepth 100000 in
theorem proved : Rows.ShowCharsCardSaid :=
  Claim7.holds_tied_plain_at .later [] [.data, .data, .data] true (true, "0b14b1e7891513a005332d515165d8773ecaaafd2dcfb3e3ccda27e83b91e4a8") false
    over (fun _ h => by cases h) (by kernel_rfl) (fun _ h => by cases h) showChars_row_tie rfl ⟨rfl, rfl⟩ (by kernel_rfl) rfl
    (fun f fn hf hfn => by
      obtain rfl : f = 6 := Option.some.inj ((show Tryz.prog.funcNamed "gimlet/gimletlaw15.ShowChars" = some 6 by kernel_rfl).symm.trans hf) |>.symm
      obtain rfl : fn = Tryz.f6 := (Option.some.inj (Tryz.func6.symm.trans hfn)).symm
      refine ⟨by kernel_rfl, fun j t ht => ?_⟩
      rw [Tryz.params6] at ht
      have hm := Array.mem_of_getElem? ht
      simp at hm
      first
        | (rcases hm with rfl <;> first  | exact (show Tryz.prog.wantsStandIn 9 = false by kernel_rfl)))
    (by kernel_rfl)
end Go.Proofs.YtmacpmblodhcpaaGreatDoor.showChars
