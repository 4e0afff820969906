/-
  What host.split and host.endsInNumber answer; nothing that was there turns. Condition: texts of at most 100000000 bytes; the variable at place 0 holds an integer.
-/
import Derived.Test.YtcfgcakmffkpmaaDoorFour
namespace Go.Proofs.YtcfgcakmffkpmaaDoor
open Go.RowKit

theorem getLastD_at (ps : List (List UInt8)) (n : Nat) (h : ps.length = n + 1) : ps[n]? = some (ps.getLastD []) := by
  rcases List.eq_nil_or_concat ps with rfl | ⟨q, x, rfl⟩
  · simp at h
  · simp at h
    subst h
    simp
theorem prt_ne (l : List UInt8) : prt l ≠ [] := by
  unfold prt
  split
  · rename_i h
    intro e
    have := congrArg List.length e
    simp at this
    omega
  · exact spl_ne 46 l
theorem prt_mem (l p : List UInt8) (h : p ∈ prt l) : p ∈ spl 46 l := by
  unfold prt at h
  split at h
  · exact List.dropLast_subset _ h
  · exact h

theorem Ps.at_ {w : World} {g j : Nat} {ps : List (List UInt8)} {p : List UInt8} (h : Ps w g ps) (hj : ps[j]? = some p) : w.cell? ⟨g, j, none⟩ = some (.string (str p)) := h.2 j p hj
theorem Ps.take {w : World} {g : Nat} {ps qs : List (List UInt8)} (h : Ps w g ps) (hq : ∀ (j : Nat) p, qs[j]? = some p → ps[j]? = some p) : Ps w g qs := ⟨h.1, fun j p hj => h.2 j p (hq j p hj)⟩

set_option maxHeartbeats 4000000 in
theorem split_any (l : List UInt8) (m : Int) (w : World) (hl : l.length ≤ 100000000) (hm : w.cell? ⟨0, 0, none⟩ = some (.int .i64 m)) :
    Calls Tryd.prog 24 #[.string (str l)] w fun e w' => ∃ c, e = .returned (.slice (some ⟨w.heap.size, 0, none⟩) (prt l).length c) ∧ (prt l).length ≤ c ∧ c ≤ 100000001 ∧ Ps w' w.heap.size (prt l) ∧ Below w.heap.size w w' := by
  have HS := Lib.hid (split_one 46 l m w hl hm)
  have hlen := spl_length 46 l
  have hcl : l.count 46 ≤ l.length := List.count_le_length
  have hp : Hid (prt l = if 1 < (spl 46 l).length ∧ (spl 46 l).getLastD [] = [] then (spl 46 l).dropLast else spl 46 l) := rfl
  have hla := getLastD_at (spl 46 l) (l.count 46) hlen
  obtain ⟨P, hP⟩ : ∃ P, P = spl 46 l := ⟨_, rfl⟩
  obtain ⟨Q, hQ⟩ : ∃ Q, Q = prt l := ⟨_, rfl⟩
  rw [← hP] at HS hlen hp hla
  rw [← hQ] at hp ⊢
  obtain ⟨k, hk⟩ : ∃ k, k = l.count 46 := ⟨_, rfl⟩
  rw [← hk] at hlen hla hcl
  have hk9 : k ≤ 100000000 := by omega
  rw [hlen] at HS
  have hki : (k : Int) + 1 - 1 = (k : Int) := by omega
  have hki2 : ((k + 1 : Nat) : Int) - 1 = (k : Int) := by omega
  have HL := Lib.hid hlen
  clear hcl hP hQ hk hlen
  by_cases hk0 : k = 0
  · have hq : Hid (Q = P) := by show _ = _; rw [hp.out, if_neg (by rw [HL.out]; omega)]
    subst hk0
    go_enter Tryd.func24, Tryd.ntmps24
    go_wp2_with (go_at_call 38; with_reducible refine HS.out.mono ?_; rintro e w1 ⟨rfl, hps, hb⟩)
    go_ret
    rw [hq.out, HL.out]
    exact ⟨_, rfl, by omega, by omega, hps, hb⟩
  · have hk1 : (0 : Int) < (k : Int) := by omega
    have hkn : k < k + 1 := by omega
    obtain ⟨X, hX⟩ : ∃ X, X = P.getLastD [] := ⟨_, rfl⟩
    rw [← hX] at hla hp
    have HA := Lib.hid hla
    clear hX hla
    by_cases hx : X = []
    · have hq : Hid (Q = P.dropLast) := by show _ = _; rw [hp.out, if_pos ⟨by rw [HL.out]; omega, hx⟩]
      have hem : (str X).toList.isEmpty = true := by rw [str_empty]; simp [hx]
      clear hp hx
      go_enter Tryd.func24, Tryd.ntmps24
      go_wp2_with (go_at_call 38; with_reducible refine HS.out.mono ?_; rintro e w1 ⟨rfl, hps, hb⟩; have hcell := hps.at_ HA.out; have HP := Lib.hid (And.intro hps hb); clear hps hb)
      go_ret
      have hql : Q.length = k := by rw [hq.out, List.length_dropLast, HL.out]; omega
      rw [hql]
      refine ⟨_, rfl, by omega, by omega, HP.out.1.take ?_, HP.out.2⟩
      intro j p hj
      rw [hq.out, List.getElem?_dropLast] at hj
      split at hj
      · exact hj
      · cases hj
    · have hq : Hid (Q = P) := by show _ = _; rw [hp.out, if_neg (fun h => hx h.2)]
      have hem : (str X).toList.isEmpty = false := by rw [str_empty]; simp [hx]
      clear hp hx
      go_enter Tryd.func24, Tryd.ntmps24
      go_wp2_with (go_at_call 38; with_reducible refine HS.out.mono ?_; rintro e w1 ⟨rfl, hps, hb⟩; have hcell := hps.at_ HA.out; have HP := Lib.hid (And.intro hps hb); clear hps hb)
      go_ret
      rw [hq.out, HL.out]
      exact ⟨_, rfl, by omega, by omega, HP.out.1, HP.out.2⟩

set_option maxHeartbeats 4000000 in
theorem ends_any (ps : List (List UInt8)) (g c : Nat) (w : World) (hps : Ps w g ps) (hne : ps ≠ []) (hn : ps.length ≤ 100000001) (hl : ∀ p ∈ ps, p.length ≤ 100000000) :
    Calls Tryd.prog 25 #[.slice (some ⟨g, 0, none⟩) ps.length c] w fun e w' => e = .returned (.bool (ends ps)) ∧ w' = w := by
  obtain ⟨k, hk⟩ : ∃ k, ps.length = k + 1 := ⟨ps.length - 1, by have := List.length_pos_iff.2 hne; omega⟩
  have hla := getLastD_at ps k hk
  have hcell := hps.at_ hla
  have hX := hl _ (List.mem_of_getElem? hla)
  have hE : Hid (ends ps = (ps.getLastD [] != [] && ((val 10 0 (ps.getLastD [])).isSome || (num (ps.getLastD [])).isSome))) := rfl
  obtain ⟨X, hX'⟩ : ∃ X, X = ps.getLastD [] := ⟨_, rfl⟩
  rw [← hX'] at hcell hX hE
  obtain ⟨E, hE'⟩ : ∃ E, E = ends ps := ⟨_, rfl⟩
  rw [← hE'] at hE ⊢
  rw [hk] at hn ⊢
  have V := value10 X w hX
  have M := number_any X w hX
  rw [valV_pair] at V M
  obtain ⟨v1, hv1⟩ : ∃ v, v = (val 10 0 X).getD 0 := ⟨_, rfl⟩
  obtain ⟨v2, hv2⟩ : ∃ v, v = (num X).getD 0 := ⟨_, rfl⟩
  obtain ⟨b1, hb1⟩ : ∃ v, v = (val 10 0 X).isSome := ⟨_, rfl⟩
  obtain ⟨b2, hb2⟩ : ∃ v, v = (num X).isSome := ⟨_, rfl⟩
  rw [← hv1, ← hb1] at V
  rw [← hv2, ← hb2] at M
  rw [← hb1, ← hb2] at hE
  have HV := Lib.hid V
  have HM := Lib.hid M
  have hki : (k : Int) + 1 - 1 = (k : Int) := by omega
  have hkn : k < k + 1 := by omega
  clear hv1 hv2 hb1 hb2 V M hla hps hl hk hne hX' hE'
  by_cases hx : X = []
  · have hem : (str X).toList.isEmpty = true := by rw [str_empty]; simp [hx]
    have hE2 : Hid (E = false) := by show _ = _; rw [hE.out, hx]; rfl
    clear hE hx
    go_enter Tryd.func25, Tryd.ntmps25
    go_wp2_with fail
    go_ret
    rw [hE2.out]
    exact ⟨rfl, rfl⟩
  · have hem : (str X).toList.isEmpty = false := by rw [str_empty]; simp [hx]
    have hE2 : Hid (E = (b1 || b2)) := by show _ = _; rw [hE.out, show (X != []) = true by simpa using hx]; rfl
    clear hE hx
    cases b1 with
    | true =>
      go_enter Tryd.func25, Tryd.ntmps25
      go_wp2_with (first
        | (go_at_call 39; with_reducible refine HV.out.mono ?_; rintro e w1 ⟨rfl, rfl⟩)
        | (go_at_call 40; with_reducible refine HM.out.mono ?_; rintro e w2 ⟨rfl, rfl⟩))
      go_ret
      rw [hE2.out]
      exact ⟨rfl, rfl⟩
    | false =>
      go_enter Tryd.func25, Tryd.ntmps25
      go_wp2_with (first
        | (go_at_call 39; with_reducible refine HV.out.mono ?_; rintro e w1 ⟨rfl, rfl⟩)
        | (go_at_call 40; with_reducible refine HM.out.mono ?_; rintro e w2 ⟨rfl, rfl⟩))
      go_ret
      rw [hE2.out]
      exact ⟨rfl, rfl⟩
end Go.Proofs.YtcfgcakmffkpmaaDoor
