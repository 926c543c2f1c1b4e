/- MaxDoc bytes are let, one more is not; what is refused changes nothing. Condition: none. Conditions: none beyond the form's own. -/
import Derived.Test.YtidfpnedbcaicaaRows
import Derived.Test.YtidfpnedbcaicaaArgs
import Derived.Test.YtidfpnedbcaicaaRopY
namespace Go.Proofs.Ytidfpnedbcaicaa.ropeSize
open Go.Proofs.Ytidfpnedbcaicaa
open Go.ChangeShapes Go.WideShapes Go.ChangeAt Go.RowKit Go.Deep
open Go.ChangeMaps (open_string shut_string)
set_option linter.unusedVariables false

theorem own : ownKnob Try.prog.godebug = none := by kernel_rfl
theorem laidOut : laidOutB Try.prog = true := by kernel_rfl
-- opt:16000000
set_option maxRecDepth 100000
attribute [local go_sem ↓] Go.wp_at_zero Go.wp_at_succ
theorem d_one {w0 W : World} {D : List (Nat × Nat)} {rs : List Rp} (h : Rst w0 W D rs) (p : Nat) (x : Int) (hx : 0 ≤ x ∧ x < 4294967296) (c0 : W.cell? ⟨p, 0, none⟩ = some (.int .u32 x)) :
    Calls Try.prog 16 #[.slice (some ⟨p, 0, none⟩) 1 1] W fun e w' => ∃ b g, e = .returned (.pointer (some ⟨b, 0, none⟩)) ∧ Rst w0 w' ((b, g) :: D) rs ∧ Below W.heap.size W w' := by
  refine (dnew_some W ⟨p, 0, none⟩ 1 1 [x] rfl (by omega) (by simpa using hx) (fun j hj => ?_)).mono ?_
  · obtain rfl : j = 0 := by omega
    rw [addr_add]; exact c0
  · rintro e w' ⟨b, g, rfl, hb0, hg0, hb, hg, hd, hbel⟩
    exact ⟨b, g, rfl, h.dice hbel hd hb0 hg0 hb hg, hbel⟩
theorem d_two {w0 W : World} {D : List (Nat × Nat)} {rs : List Rp} (h : Rst w0 W D rs) (p : Nat) (x y : Int) (hx : 0 ≤ x ∧ x < 4294967296) (hy : 0 ≤ y ∧ y < 4294967296) (c0 : W.cell? ⟨p, 0, none⟩ = some (.int .u32 x)) (c1 : W.cell? ⟨p, 1, none⟩ = some (.int .u32 y)) :
    Calls Try.prog 16 #[.slice (some ⟨p, 0, none⟩) 2 2] W fun e w' => ∃ b g, e = .returned (.pointer (some ⟨b, 0, none⟩)) ∧ Rst w0 w' ((b, g) :: D) rs ∧ Below W.heap.size W w' := by
  refine (dnew_some W ⟨p, 0, none⟩ 2 2 [x, y] rfl (by omega) (by simp; omega) (fun j hj => ?_)).mono ?_
  · rcases j with _ | _ | j
    · rw [addr_add]; exact c0
    · rw [addr_add]; exact c1
    · omega
  · rintro e w' ⟨b, g, rfl, hb0, hg0, hb, hg, hd, hbel⟩
    exact ⟨b, g, rfl, h.dice hbel hd hb0 hg0 hb hg, hbel⟩
theorem n_one {w0 W : World} {D : List (Nat × Nat)} {rs : List Rp} (h : Rst w0 W D rs) {d g : Nat} (hd : (d, g) ∈ D) (p : Nat) (x : ByteArray) (hx : x.size ≤ 65536) (c0 : W.cell? ⟨p, 0, none⟩ = some (.string x)) :
    Calls Try.prog 17 #[.pointer (some ⟨d, 0, none⟩), .slice (some ⟨p, 0, none⟩) 1 1] W (NewsPost w0 D d rs x) :=
  rst_new h hd p 0 1 [x] (World.block_lt_of_cell? W _ c0) (fun j z hz => by
    rcases j with _ | j
    · obtain rfl : x = z := by simpa using hz
      exact c0
    · simp at hz) (by simp) (by simp) x (by simp [cat]) hx
theorem n_two {w0 W : World} {D : List (Nat × Nat)} {rs : List Rp} (h : Rst w0 W D rs) {d g : Nat} (hd : (d, g) ∈ D) (p : Nat) (x y : ByteArray) (hx : x.size ≤ 100000) (hy : y.size ≤ 100000) (c0 : W.cell? ⟨p, 0, none⟩ = some (.string x)) (c1 : W.cell? ⟨p, 1, none⟩ = some (.string y)) (k : Int) (hk : k = if 65536 < x.size + y.size then 4 else 0) :
    Calls Try.prog 17 #[.pointer (some ⟨d, 0, none⟩), .slice (some ⟨p, 0, none⟩) 2 2] W fun e w' => ∃ a, e = .returned (.tuple #[.pointer a, .int .i64 k]) ∧ Rst w0 w' D rs := by
  have hcells : ∀ (j : Nat) z, [x, y][j]? = some z → W.cell? ⟨p, 0 + j, none⟩ = some (.string z) := fun j z hz => by
    rcases j with _ | _ | j
    · obtain rfl : x = z := by simpa using hz
      exact c0
    · obtain rfl : y = z := by simpa using hz
      exact c1
    · simp at hz
  have hc : cat [x, y] = (x ++ y).data.toList := by simp [cat]
  have hl : (cat [x, y]).length = x.size + y.size := by rw [hc, ← size_list, ByteArray.size_append]
  by_cases hb : 65536 < x.size + y.size
  · rw [if_pos hb] at hk
    subst hk
    refine (new_big (d := d) p 0 2 [x, y] hcells (by simp) (by simp; omega) (by rw [hl]; exact hb)).mono ?_
    rintro e w' ⟨rfl, rfl⟩
    exact ⟨none, rfl, h⟩
  · rw [if_neg hb] at hk
    subst hk
    refine (rst_new h hd p 0 2 [x, y] (World.block_lt_of_cell? W _ c0) hcells (by simp) (by simp) (x ++ y) hc (by rw [ByteArray.size_append]; omega)).mono ?_
    rintro e w' ⟨r, t, rfl, _, _, hR⟩
    exact ⟨_, rfl, hR.drop⟩
theorem p16 (k : Nat) (h : k ≤ 16) : 2 ^ k ≤ 65536 := by
  have := Nat.pow_le_pow_right (n := 2) (by omega) h
  omega
theorem p15 (k : Nat) (h : 2 ^ k < 65536) : k ≤ 15 := by
  rcases Nat.lt_or_ge k 16 with h1 | h1
  · omega
  · have := Nat.pow_le_pow_right (n := 2) (by omega) h1
    omega
def szM (s : Value) : Nat := 65536 - (match s with | .string x => x.size | _ => 0)
theorem szM_lt (sv : ByteArray) (h : 0 < sv.size) (h2 : sv.size < 65536) : szM (.string (sv ++ sv)) < szM (.string sv) := by
  show 65536 - (sv ++ sv).size < 65536 - sv.size
  rw [ByteArray.size_append]
  omega
def SzRel (w : World) (s : Value) (wr : World) : Prop := ∃ (k : Nat) (sv : ByteArray), s = .string sv ∧ k ≤ 16 ∧ Hid (sv.size = 2 ^ k) ∧ w = wr
theorem sz_ins (x c : ByteArray) (h : 1 ≤ x.size) : (x.extract 0 1 ++ c ++ x.extract 1 x.size).size = x.size + c.size := by
  simp only [ByteArray.size_append, ByteArray.size_extract]
  omega
theorem sz_del (x : ByteArray) (m : Nat) (h : 1 + m ≤ x.size) : (x.extract 0 1 ++ x.extract (1 + m) x.size).size = x.size - m := by
  simp only [ByteArray.size_append, ByteArray.size_extract]
  omega
set_option maxRecDepth 100000 in
set_option maxHeartbeats 16000000 in
theorem walk (a0 : Int) (a1 : Int) (w : World) (w0 : (Lit.int .i64 a0).wf = true) (w1 : (Lit.int .i64 a1).wf = true) :
    Calls Try.prog 9 #[.int .i64 a0, .int .i64 a1] w fun e w' => e = .returned (.bool true) ∧ Below w.heap.size w w' := by
  have hS := lowN_lt a0 4 (by omega)
  have hC := lowN_lt a1 6 (by omega)
  have HL0 := hide (fun W => low_any a0 4 W (by omega) (by omega))
  have HL1 := hide (fun W => low_any a1 6 W (by omega) (by omega))
  generalize lowN a0 4 = sh at *
  generalize lowN a1 6 = m at *
  go_enter Try.func9, Try.ntmps9
  go_wp2
  go_loopw [5] (fun s wr => SzRel w s wr) (fun s _ => szM s)
  case atStart => exact ⟨0, ⟨#[97]⟩, rfl, by omega, hide (by decide), rfl⟩
  case round =>
    obtain ⟨k, sv, rfl, hk, HV, rfl⟩ := hrel
    have hv := HV.out
    have hk16 := p16 k hk
    have hp : 0 < 2 ^ k := Nat.pow_pos (by omega)
    by_cases hlt : sv.size < 65536
    · have hk15 := p15 k (by omega)
      have hz : (sv ++ sv).size ≤ 131072 := by rw [ByteArray.size_append]; omega
      have hz2 : sv.size + sv.size ≤ 131072 := by omega
      have hz3 : (sv ++ sv).size = sv.size + sv.size := ByteArray.size_append
      have HZ := hide (show (sv ++ sv).size = 2 ^ (k + 1) by rw [hz3, hv, Nat.pow_succ]; omega)
      have hsp : 0 < sv.size := by omega
      have g1 : decide ((sv.size : Int) < 65536) = true := decide_eq_true (by omega)
      have HLT := hide hlt
      clear hv hp hz3 hlt hk16
      go_wp2
      exact ⟨⟨k + 1, sv ++ sv, rfl, by omega, HZ, by first | rfl | trivial⟩, szM_lt sv hsp HLT.out⟩
    · have hsv : sv.size = 65536 := by omega
      have HSV := hide hsv
      have g1 : decide ((sv.size : Int) < 65536) = false := decide_eq_false (by omega)
      clear hv HV hp hk16 hsv hlt
      obtain ⟨n, hn⟩ : ∃ n : Nat, n = 65536 - sh := ⟨_, rfl⟩
      have hn2 : (65536 : Int) - (sh : Int) = (n : Int) := by omega
      have hn3 : n ≤ 65536 := by omega
      have hn4 : 65533 ≤ n := by omega
      have hn5 : n ≤ sv.size := by have := HSV.out; omega
      have hxs : (sv.extract 0 n).size = n := by rw [ByteArray.size_extract]; omega
      have hcs : ((⟨#[98, 99, 100, 101, 102]⟩ : ByteArray).extract 0 m).size = m := by rw [ByteArray.size_extract]; have : (⟨#[98, 99, 100, 101, 102]⟩ : ByteArray).size = 5 := by decide
                                                                                       omega
      have HXS := hide hxs
      have HCS := hide hcs
      clear hn hxs hcs
      go_wp2_with fail
      refine (HL0.out _).mono ?_
      rintro e w1 ⟨rfl, rfl⟩
      go_wp2_with fail
      refine (HL1.out _).mono ?_
      rintro e w1 ⟨rfl, rfl⟩
      have hmc : m ≤ (⟨#[98, 99, 100, 101, 102]⟩ : ByteArray).size := by have : (⟨#[98, 99, 100, 101, 102]⟩ : ByteArray).size = 5 := by decide
                                                                         omega
      clear hn2
      have HR0 := hide (rst_start w)
      have hx5 : sv.size ≤ 70000 := by have := HSV.out; omega
      go_wp2_with fail
      generalize hcc : (⟨#[98, 99, 100, 101, 102]⟩ : ByteArray).extract 0 m = cc at *
      clear hcc hmc
      go_region_with (first
        | (go_at_call 16; refine (d_two (HR0.out.bl (by repeat (first | exact bl_refl _ | refine bl_drew ?_ | refine bl_alloc ?_ _))) _ 9 8 (by omega) (by omega) (by go_simp) (by go_simp)).mono ?_; rintro e w3 ⟨d1, b1, rfl, hR1, hb1⟩; have HR1 := hide hR1; clear hR1)
        | (go_at_call 17; refine (n_one (HR1.out.bl (by repeat (first | exact bl_refl _ | refine bl_drew ?_ | refine bl_alloc ?_ _))) (d := d1) (g := b1) (by simp) _ (sv.extract 0 n) (by have := HXS.out; omega) (by first | (go_simp; done) | (refine cell_later hb1 ?_; go_simp; done))).mono ?_; rintro e w4 ⟨r, t1, rfl, _, hx1, hR2⟩; have HX1 := hide hx1; have HR2 := hide hR2; clear hx1 hR2)
        | fail)
      all_goals
        clear hb1 HR1
        go_wp2_with fail
        refine (d_one (HR2.out.bl (by repeat (first | exact bl_refl _ | refine bl_drew ?_ | refine bl_alloc ?_ _))) _ 7 (by omega) (by go_simp)).mono ?_
        rintro e w5 ⟨d2, b2, rfl, hR3, _⟩
        have HR3 := hide hR3
        clear hR3
        go_wp2_with fail
        refine (n_one (HR3.out.bl (by repeat (first | exact bl_refl _ | refine bl_drew ?_ | refine bl_alloc ?_ _))) (d := d2) (g := b2) (by simp) _ cc (by have := HCS.out; omega) (by go_simp)).mono ?_
        rintro e w6 ⟨o, t2, rfl, hne, hx2, hR4⟩
        have hro : r ≠ o := hne (r, d1, t1) (by simp)
        have HX2 := hide hx2
        have HR4 := hide hR4
        clear hne hx2 hR4 HR2 HR3
        by_cases hbig : 65536 < n + cc.size
        · have HK := hide (show (4 : Int) = if 65536 < (sv.extract 0 n).size + cc.size then 4 else 0 by rw [HXS.out, if_pos hbig])
          have g2 : decide ((65536 : Int) < (n : Int) + (cc.size : Int)) = true := decide_eq_true (by omega)
          have HBIG := hide hbig
          clear hbig
          go_wp2_with fail
          go_region_with (first
            | (go_at_call 16; refine (d_one (HR4.out.bl (by repeat (first | exact bl_refl _ | refine bl_drew ?_ | refine bl_alloc ?_ _))) _ 1 (by omega) (by go_simp)).mono ?_; rintro e w7 ⟨d3, b3, rfl, hR5, hb1⟩; have HR5 := hide hR5; clear hR5)
            | (go_at_call 17; refine (n_two (HR5.out.bl (by repeat (first | exact bl_refl _ | refine bl_drew ?_ | refine bl_alloc ?_ _))) (d := d3) (g := b3) (by simp) _ (sv.extract 0 n) cc (by have := HXS.out; omega) (by have := HCS.out; omega) (by first | (go_simp; done) | (refine cell_later hb1 ?_; go_simp; done)) (by first | (go_simp; done) | (refine cell_later hb1 ?_; go_simp; done)) 4 HK.out).mono ?_; rintro e w8 ⟨az, rfl, hR6⟩; have HR6 := hide hR6; clear hR6)
            | fail)
          all_goals
            have hcr : RpC w8 r d1 t1 := HR6.out.rp (r, d1, t1) (by simp)
            have hco : RpC w8 o d2 t2 := HR6.out.rp (o, d2, t2) (by simp)
            have har : t1.At w8 := (HR6.out.at' (q := (r, d1, t1)) (by simp)).1
            have hao : t2.At w8 := (HR6.out.at' (q := (o, d2, t2)) (by simp)).1
            have HI := hide (insert_no hcr har n cc (by rw [HX1.out.len, HXS.out]; omega) (by have := HCS.out; omega) 4 (by rw [HX1.out.len, HXS.out, if_neg (by omega)]) (fun _ => by rw [HX1.out.len, HXS.out]; exact HBIG.out))
            have HJ := hide (join_no hcr har hco hao hro (by rw [HX1.out.len, HX2.out.len, HXS.out]; exact HBIG.out) (by rw [HX1.out.len, HXS.out]; omega) (by rw [HX2.out.len]; have := HCS.out; omega))
            have HLN := rst_len HR6.out (r := r) (d := d1) (t := t1) (by simp) HX1.out
            rw [HXS.out] at HLN
            have HLE := hide HLN
            have HTX := hide (rst_text HR6.out (r := o) (d := d2) (t := t2) (by simp) HX2.out (by have := HCS.out; omega))
            have hm5 : cc.size ≤ 5 := by have := HCS.out; omega
            clear hcr hco har hao HLN hb1 HR5 hn4 hn5 hx5 HK HBIG
            go_wp2_with fail
            refine HI.out.mono ?_
            rintro e w9 ⟨rfl, rfl⟩
            go_wp2_with fail
            refine HJ.out.mono ?_
            rintro e w9 ⟨rfl, rfl⟩
            go_wp2_with fail
            refine HLE.out.mono ?_
            rintro e w9 ⟨rfl, rfl⟩
            go_wp2_with fail
            refine HTX.out.mono ?_
            rintro e w9 ⟨rfl, _, hR⟩
            have hbz := hR.bel
            clear hR
            go_wp2_with fail
            refine (awake3_any _).mono ?_
            rintro e w10 ⟨rfl, hb10⟩
            have hb := bl_trans hbz hb10
            go_wp2
            go_ret
            exact ⟨rfl, hb⟩
        · have HK := hide (show (0 : Int) = if 65536 < (sv.extract 0 n).size + cc.size then 4 else 0 by rw [HXS.out, if_neg hbig])
          have g2 : decide ((65536 : Int) < (n : Int) + (cc.size : Int)) = false := decide_eq_false (by omega)
          have HBIG := hide hbig
          clear hbig
          go_wp2_with fail
          go_region_with (first
            | (go_at_call 16; refine (d_one (HR4.out.bl (by repeat (first | exact bl_refl _ | refine bl_drew ?_ | refine bl_alloc ?_ _))) _ 1 (by omega) (by go_simp)).mono ?_; rintro e w7 ⟨d3, b3, rfl, hR5, hb1⟩; have HR5 := hide hR5; clear hR5)
            | (go_at_call 17; refine (n_two (HR5.out.bl (by repeat (first | exact bl_refl _ | refine bl_drew ?_ | refine bl_alloc ?_ _))) (d := d3) (g := b3) (by simp) _ (sv.extract 0 n) cc (by have := HXS.out; omega) (by have := HCS.out; omega) (by first | (go_simp; done) | (refine cell_later hb1 ?_; go_simp; done)) (by first | (go_simp; done) | (refine cell_later hb1 ?_; go_simp; done)) 0 HK.out).mono ?_; rintro e w8 ⟨az, rfl, hR6⟩; have HR6 := hide hR6; clear hR6)
            | fail)
          all_goals
            have hm5 : cc.size ≤ 5 := by have := HCS.out; omega
            have HI := hide (rst_insert HR6.out.swap (d := d1) (g := b1) (by simp) HX1.out 1 cc (by rw [HXS.out]; omega) (by rw [HXS.out]; have := HBIG.out; omega))
            clear hb1 HR5
            go_wp2_with fail
            refine HI.out.mono ?_
            rintro e w9 ⟨t3, rfl, htx, hR⟩
            have hsz := sz_ins (sv.extract 0 n) cc (by rw [HXS.out]; omega)
            rw [HXS.out] at hsz
            obtain ⟨Y, hY⟩ : ∃ Y, (sv.extract 0 n).extract 0 1 ++ cc ++ (sv.extract 0 n).extract 1 n = Y := ⟨_, rfl⟩
            rw [HXS.out, hY] at htx
            rw [hY] at hsz
            clear hY
            have HLN := rst_len hR (r := r) (d := d1) (t := t3) (by simp) htx
            rw [show (Y.size : Int) = (n : Int) + (cc.size : Int) by omega] at HLN
            have HLE := hide HLN
            have HD := hide (rst_delete hR (d := d1) (g := b1) (by simp) htx 1 (1 + cc.size) (by omega) (by omega) (by have := HBIG.out; omega))
            rw [show ((1 + cc.size : Nat) : Int) = 1 + (cc.size : Int) by omega] at HD
            have hdz := sz_del Y cc.size (by omega)
            have hZ : ∃ Z, Y.extract 0 1 ++ Y.extract (1 + cc.size) Y.size = Z := ⟨_, rfl⟩
            obtain ⟨Z, hZ⟩ := hZ
            rw [hZ] at HD hdz
            have hzz : Z.size = n := by omega
            have HZZ := hide hzz
            clear hZ hdz hsz HLN htx hR hzz HI
            go_wp2_with fail
            refine HLE.out.mono ?_
            rintro e w10 ⟨rfl, rfl⟩
            go_wp2_with fail
            refine HD.out.mono ?_
            rintro e w10 ⟨t4, rfl, htx, hR⟩
            have HJ := hide (rst_join hR (g := b1) (by simp) htx HX2.out (by rw [HZZ.out]; have := HBIG.out; omega))
            clear htx hR HD HLE
            go_wp2_with fail
            refine HJ.out.mono ?_
            rintro e w11 ⟨t5, rfl, htx, hR⟩
            have HL1 := hide (rst_len hR (r := o) (d := d2) (t := .nil) (by simp) (show Tx .nil ⟨#[]⟩ from rfl))
            have HL2 := rst_len hR (r := r) (d := d1) (t := t5) (by simp) htx
            rw [show ((Z ++ cc).size : Int) = (n : Int) + (cc.size : Int) by rw [ByteArray.size_append, HZZ.out]; omega] at HL2
            have HL3 := hide HL2
            have hbz := hR.bel
            clear htx hR HL2 HJ
            go_wp2_with fail
            refine HL1.out.mono ?_
            rintro e w12 ⟨rfl, rfl⟩
            go_wp2_with fail
            refine HL3.out.mono ?_
            rintro e w12 ⟨rfl, rfl⟩
            go_wp2_with fail
            refine (awake3_any _).mono ?_
            rintro e w13 ⟨rfl, hb10⟩
            have hb := bl_trans hbz hb10
            go_wp2
            go_ret
            exact ⟨rfl, hb⟩

set_option maxRecDepth 100000 in
theorem lifted (os : Os) (started : os.Started) (H : Type) (enc : TypeId × Value → H) :
    ReturnsInHanded {} Try.checked os 9 .any (Rows.ropeSizeSpec.pre6 enc Try.prog Try.f9 Rows.ropeSizeRow.domain false) (Rows.ropeSizeSpec.post enc Try.prog Try.f9 false true false false) := by
  refine returnsInHanded_of_change (C := Try.checked) own started (by kernel_rfl) Try.func9
    (ChangeSpec.witness6 (enc := enc) (C := Try.checked) false ⟨#[], #[.int .i64 0, .int .i64 0], []⟩ 8 (by kernel_rfl) (by kernel_rfl) (by kernel_rfl) (by kernel_rfl)) ?_
  intro W base args ds gs before hval0 hW hcnd _
  have hval : ∀ (j : Nat) t v, Try.f9.params[j]? = some t → args[j]? = some v → Value.okWide Try.prog W .any base t v := hval0
  have hW' := hW
  obtain ⟨p, q, hA0, hV, rfl, hfz, hnd⟩ := hW
  have hA : DataW.TrodAll enc Try.prog W 0 (fun _ => true) true Try.f9.params.toList args.toList ds p := hA0
  rw [Try.params9] at hA hval
  obtain ⟨v0, vs0, d0, ds0, p0, q0, hargs, rfl, rfl, h0, r0⟩ := trodAll_cons hA
  obtain ⟨v1, vs1, d1, ds1, p1, q1, rfl, rfl, rfl, h1, r1⟩ := trodAll_cons r0
  obtain ⟨rfl, rfl, rfl⟩ := trodAll_nil r1
  obtain rfl : args = #[v0, v1] := by cases args; simp_all
  obtain ⟨rfl, rfl⟩ := trodVars_none hV
  have k0 := h0
  have lt0 : ∀ x ∈ p0, x.block < W.heap.size := by obtain ⟨m, hm⟩ := k0; exact DataW.trod_lt m _ _ _ hm
  obtain ⟨a0, rfl, hd0, hp0, w0⟩ := open_int Try.underlying3 (hval 0 3 v0 rfl rfl) h0
  have k1 := h1
  have lt1 : ∀ x ∈ p1, x.block < W.heap.size := by obtain ⟨m, hm⟩ := k1; exact DataW.trod_lt m _ _ _ hm
  obtain ⟨a1, rfl, hd1, hp1, w1⟩ := open_int Try.underlying3 (hval 1 3 v1 rfl rfl) h1
  clear hA0 hval0
  refine (walk a0 a1 W w0 w1).mono fun e W' ⟨he, bel⟩ => ?_
  subst he
  exact ⟨_, rfl, _, _, _, [], _, [], hW', trodAll_mk1 (shut_bool Try.underlying4 _), (trodAll_cons_mk (Below.trod laidOut (by kernel_rfl) (of_decide_eq_true (by kernel_rfl)) k0 bel lt0) (trodAll_cons_mk (Below.trod laidOut (by kernel_rfl) (of_decide_eq_true (by kernel_rfl)) k1 bel lt1) trodAll_mk0)), rfl, bel.frame _, fun h => by cases h⟩

theorem over : Rows.ropeSizeRow.holds Try.pinned (OpenSpec.ofChange Rows.ropeSizeSpec) :=
  OpenClaim.holds_of_wide 9 Try.f9 rfl rfl rfl rfl rfl rfl rfl ⟨rfl, rfl, rfl, rfl, rfl⟩ rfl rfl rfl rfl rfl (by kernel_rfl) Try.func9 (by kernel_rfl)
    (of_decide_eq_true (by kernel_rfl)) (by unfold Func.isWrapper; first | (rw [if_pos (by decide +kernel)]; kernel_rfl) | (rw [if_neg (by decide +kernel)]; exact ⟨rfl, rfl⟩))
    (fun os started H enc _ => lifted os started H enc)

theorem proved : Rows.RopeSizeSaid := over
end Go.Proofs.Ytidfpnedbcaicaa.ropeSize
