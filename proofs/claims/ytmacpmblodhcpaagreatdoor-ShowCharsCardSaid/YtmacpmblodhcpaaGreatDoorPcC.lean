/- What a law's call of Show leaves, and Read of it. No condition. -/
import Derived.Test.YtmacpmblodhcpaaGreatDoorPcB
namespace Go.Proofs.YtmacpmblodhcpaaGreatDoor
open SetM
set_option linter.unusedVariables false
theorem mkS_data (l : List UInt8) : (mkS l).data.toList = l := by simp [mkS]
theorem mkS_size (l : List UInt8) : (mkS l).size = l.length := by
  rw [← show (mkS l).data.toList.length = (mkS l).size from Array.length_toList, mkS_data]
theorem cnB_parts {t : Rt} (h : cnB t 16 512 = true) : okM t = true ∧ dM t ≤ 16 := by
  obtain ⟨_, h2, h3⟩ := cnB_to h
  exact ⟨h3, by omega⟩
theorem shwS_yes {t : Rt} (h : cnB t 16 512 = true) : shwS t = mkS (shX t) ∧ shwE t = 0 := by
  unfold shwS shwE; rw [h]; exact ⟨rfl, rfl⟩
theorem shwS_no {t : Rt} (h : cnB t 16 512 = false) : shwS t = ⟨#[]⟩ ∧ shwE t = 10 := by
  unfold shwS shwE; rw [h]; exact ⟨rfl, rfl⟩
theorem shwS_len {t : Rt} (h : cnB t 16 512 = true) (hz : sM t ≤ 5000) : (shwS t).size ≤ 100000 := by
  rw [(shwS_yes h).1, mkS_size]
  have := sh_len t (cnB_parts h).1
  omega
theorem shw_read {t : Rt} (h : cnB t 16 512 = true) : readP (shwS t).data.toList = if 256 < (shwS t).size then .err 4 else .ok (er t) [] := by
  rw [(shwS_yes h).1, mkS_data, mkS_size]
  by_cases hz : 256 < (shX t).length
  · rw [if_pos hz]
    unfold readP
    rw [if_pos hz]
  · rw [if_neg hz]
    obtain ⟨h1, h2⟩ := cnB_parts h
    exact readP_show h1 h2 (by omega)
theorem cnB_er2 {t x : Rt} (h : er t = x) : cnB t 16 512 = cnB x 16 512 := by
  subst h
  unfold cnB
  rw [pM_er, dM_er, okM_er]
theorem readP_cn {l : List UInt8} {x : Rt} {r : List UInt8} (h : readP l = .ok x r) : cnB x 16 512 = true := by
  obtain ⟨_, _, _, _, _, v6, _, _, v9, _, v11⟩ := readP_va h
  exact cnB_of (by omega) (by omega) v6
theorem shw_er {t u : Rt} (h : er t = er u) : shwS t = shwS u ∧ shwE t = shwE u := by
  have h1 : cnB t 16 512 = cnB u 16 512 := (cnB_er2 h).trans (cnB_er2 rfl).symm
  have h2 : shX t = shX u := by rw [← shX_er t, h, shX_er]
  unfold shwS shwE
  rw [h1, h2]
  exact ⟨rfl, rfl⟩
end Go.Proofs.YtmacpmblodhcpaaGreatDoor
