/-
  What host.parseBrackets and host.Parse answer; nothing that was there turns. Condition: texts of at most 10000000 bytes; the library's tables.
-/
import Derived.Test.YtcfgcakmffkpmaaDoorBrk
namespace Go.Proofs.YtcfgcakmffkpmaaDoor
open Go.RowKit

theorem ip6_ok (l : List UInt8) (a : List Nat) (h : ip6 l = some a) : a.length = 8 ∧ ∀ x ∈ a, x < 65536 := by
  unfold ip6 at h
  rw [Option.bind_eq_some_iff] at h
  obtain ⟨f, hf, h⟩ := h
  rw [Option.bind_eq_some_iff] at h
  obtain ⟨b, hb, h⟩ := h
  split at h
  · rename_i hc
    cases h
    refine ⟨by simp; omega, fun x hx => ?_⟩
    rcases List.mem_append.1 hx with hx | hx
    · rcases List.mem_append.1 hx with hx | hx
      · exact (pcs_len _ _ f hf).2 x hx
      · have := List.eq_of_mem_replicate hx
        omega
    · exact (pcs_len _ _ b hb).2 x hx
  · cases h
/-- How a text that begins with a bracket is written. -/
def prb (l : List UInt8) : List UInt8 × Bool := if Lib.hasSuffix (l.drop 1) [93] then (match ip6 (Lib.trimSuffix (l.drop 1) [93]) with | some a => (brk a, false) | none => ([], true)) else ([], true)
/-- Parse: how a host is written; true: it is none. -/
def prs (l : List UInt8) : List UInt8 × Bool := if Lib.hasPrefix l [91] then prb l else nam (dec l)

theorem trim_len (s p : List UInt8) : (Lib.trimSuffix s p).length ≤ s.length := by
  unfold Lib.trimSuffix
  split
  · simp
  · exact Nat.le_refl _

set_option maxHeartbeats 8000000 in
set_option maxRecDepth 100000 in
theorem prb_any (l : List UInt8) (w : World) (hl : l.length ≤ 10000000) (h1 : 1 ≤ l.length) (ht : Tabs w) : Calls Tryd.prog 21 #[.string (str l)] w fun e w' => e = .returned (prsV (prb l)) ∧ Below w.heap.size w w' := by
  have HT := Lib.hid ht
  have hsz := str_size l
  have hcut := str_drop l 1 l.length rfl h1
  have hR : Hid (prb l = if Lib.hasSuffix (l.drop 1) [93] then (match ip6 (Lib.trimSuffix (l.drop 1) [93]) with | some a => (brk a, false) | none => ([], true)) else ([], true)) := rfl
  obtain ⟨R, hR'⟩ : ∃ R, R = prb l := ⟨_, rfl⟩
  rw [← hR'] at hR ⊢
  have hdl : (l.drop 1).length ≤ 10000000 := by rw [List.length_drop]; omega
  obtain ⟨D, hD⟩ : ∃ D, D = l.drop 1 := ⟨_, rfl⟩
  rw [← hD] at hcut hR hdl
  have HS : Calls Tryd.prog 32 #[.string (str D), .string ⟨#[93]⟩] w fun e w' => e = .returned (.tuple #[.string (str (Lib.trimSuffix D [93])), .bool (Lib.hasSuffix D [93])]) ∧ w' = w := Tryd.strings_CutSuffix (str D) ⟨#[93]⟩ w (by rw [str_size]; omega)
  have htl := trim_len D [93]
  obtain ⟨T, hT⟩ : ∃ T, T = Lib.trimSuffix D [93] := ⟨_, rfl⟩
  rw [← hT] at HS htl hR
  have H6 := Lib.hid (six_any T w (by omega) ht)
  have hok := ip6_ok T
  obtain ⟨S, hS⟩ : ∃ S, S = l.length := ⟨_, rfl⟩
  rw [← hS] at hsz hcut h1 hl
  have h1i : (1 : Int) ≤ (S : Int) := by omega
  clear hD hT hS hR' ht htl
  cases hx : Lib.hasSuffix D [93] with
  | false =>
    have hR2 : Hid (R = ([], true)) := by show _ = _; rw [hR.out, hx]; rfl
    rw [hx] at HS
    have HS := Lib.hid HS
    clear hx hR hok H6
    go_enter Tryd.func21, Tryd.ntmps21
    go_wp2_with (go_at_call 32; with_reducible refine HS.out.mono ?_; rintro e w1 ⟨rfl, rfl⟩)
    go_ret2
    rw [hR2.out]
    exact ⟨rfl, Below.refl _ _⟩
  | true =>
    rw [hx] at HS
    have HS := Lib.hid HS
    cases ho : ip6 T with
    | none =>
      have hR2 : Hid (R = ([], true)) := by show _ = _; rw [hR.out, hx, ho]; rfl
      rw [ho] at H6
      have H62 : Hid (Calls Tryd.prog 17 #[.string (str T)] w fun e w' => e = .returned (.tuple #[.agg (vhs zero8).toArray, .int .i64 7]) ∧ Below w.heap.size w w') := H6.out
      clear hx hR hok H6 ho
      go_enter Tryd.func21, Tryd.ntmps21
      go_wp2_with (first
        | (go_at_call 32; with_reducible refine HS.out.mono ?_; rintro e w1 ⟨rfl, rfl⟩)
        | (go_at_call 17; with_reducible refine H62.out.mono ?_; rintro e w2 ⟨rfl, hb2⟩; have hk2 := kept_of hb2; clear hb2)
        | ((with_reducible show wpList _ _ _ (⟨some 6, .alloc _, _, _, _, _⟩ :: _) _ _); refine wp_new _ rfl 38 rfl _ type38 ?_; intro w3 g3 B3 F3; simp only [Act.put, List.setIfInBounds_toArray, List.set_cons_zero, List.set_cons_succ])
        | ((with_reducible show wpList _ _ _ (⟨none, .store 38 (.tmp 6) _, _, _, _, _⟩ :: _) _ _); refine wp_putAll _ rfl 38 (.tmp 6) (.tmp 19) rfl g3 38 _ (vhs zero8) rfl rfl B3 rfl size38 (Hs_one _) ?_; intro w4 B4 U4; simp only [Act.put]))
      go_ret2
      rw [hR2.out]
      exact ⟨rfl, (hk2.step F3.below).base (U4.below (by rw [F3.is]; exact hk2.size))⟩
    | some a =>
      have hR2 : Hid (R = (brk a, false)) := by show _ = _; rw [hR.out, hx, ho]; rfl
      rw [ho] at H6
      have H62 : Hid (Calls Tryd.prog 17 #[.string (str T)] w fun e w' => e = .returned (.tuple #[.agg (vhs a).toArray, .int .i64 0]) ∧ Below w.heap.size w w') := H6.out
      obtain ⟨ha, hlt⟩ := hok a ho
      have hs38 := Lib.hid (size38' a ha)
      have haz : Hid ((vhs a).length = (vhs zero8).length) := by show _ = _; rw [Hs_len, ha]; rfl
      have HBr : Hid (∀ w', Kept w w' → Calls Tryd.prog 33 #[.agg (vhs a).toArray] w' fun e w2 => e = .returned (.string (str (brk a))) ∧ Below w'.heap.size w' w2) := fun w' hk => brk_any a ha hlt w' (HT.out.kp hk)
      clear hx hR hok H6 ho ha hlt
      go_enter Tryd.func21, Tryd.ntmps21
      go_wp2_with (first
        | (go_at_call 32; with_reducible refine HS.out.mono ?_; rintro e w1 ⟨rfl, rfl⟩)
        | (go_at_call 17; with_reducible refine H62.out.mono ?_; rintro e w2 ⟨rfl, hb2⟩; have hk2 := kept_of hb2; clear hb2)
        | ((with_reducible show wpList _ _ _ (⟨some 6, .alloc _, _, _, _, _⟩ :: _) _ _); refine wp_new _ rfl 38 rfl _ type38 ?_; intro w3 g3 B3 F3; simp only [Act.put, List.setIfInBounds_toArray, List.set_cons_zero, List.set_cons_succ])
        | ((with_reducible show wpList _ _ _ (⟨none, .store 38 (.tmp 6) _, _, _, _, _⟩ :: _) _ _); refine wp_putAll _ rfl 38 (.tmp 6) (.tmp 19) rfl g3 38 _ (vhs a) rfl rfl B3 haz.out hs38.out (Hs_one _) ?_; intro w4 B4 U4; simp only [Act.put]; have hk4 := (hk2.step F3.below).base (U4.below (by rw [F3.is]; exact hk2.size)))
        | ((with_reducible show wpList _ _ _ (⟨some 24, .load 38 _, _, _, _, _⟩ :: _) _ _); refine wp_get _ rfl 38 (.tmp 6) rfl g3 0 (vhs a) _ rfl B4.whole Tryd.underlying38 rfl hs38.out ?_; simp only [Act.put, List.setIfInBounds_toArray, List.set_cons_zero, List.set_cons_succ])
        | (go_at_call 33; with_reducible refine (HBr.out _ hk4).mono ?_; rintro e w5 ⟨rfl, hb5⟩; have hk5 := hk4.step hb5; clear hb5))
      go_ret2
      rw [hR2.out]
      exact ⟨rfl, hk5⟩

set_option maxHeartbeats 8000000 in
theorem parse_any (l : List UInt8) (w : World) (hl : l.length ≤ 10000000) (ht : Tabs w) : Calls Tryd.prog 10 #[.string (str l)] w fun e w' => e = .returned (prsV (prs l)) ∧ Below w.heap.size w w' := by
  have HT := Lib.hid ht
  have H1 : Calls Tryd.prog 20 #[.string (str l), .string ⟨#[91]⟩] w fun e w' => e = .returned (.bool (Lib.hasPrefix l [91])) ∧ w' = w := Tryd.strings_HasPrefix (str l) _ w
  cases hx : Lib.hasPrefix l [91] with
  | true =>
    have hR : prs l = prb l := by unfold prs; rw [if_pos hx]
    have hl1 : 1 ≤ l.length := by
      cases l with
      | nil => simp [Lib.hasPrefix] at hx
      | cons a r => simp
    have HB := prb_any l w hl hl1 ht
    rw [hx] at H1
    rw [← hR] at HB
    have HB := Lib.hid HB
    have H1 := Lib.hid H1
    unfold prsV at HB ⊢
    obtain ⟨o, ho⟩ : ∃ o, o = (prs l).1 := ⟨_, rfl⟩
    obtain ⟨e1, he1⟩ : ∃ e1, e1 = errV (prs l).2 := ⟨_, rfl⟩
    rw [← ho, ← he1] at HB ⊢
    clear hx hR hl1 ht ho he1
    go_enter Tryd.func10, Tryd.ntmps10
    go_wp2_with (first
      | (go_at_call 20; with_reducible refine H1.out.mono ?_; rintro e w1 ⟨rfl, rfl⟩)
      | (go_at_call 21; with_reducible refine HB.out.mono ?_; rintro e w2 ⟨rfl, hb2⟩))
    go_ret2
    exact ⟨rfl, hb2⟩
  | false =>
    have hR : prs l = nam (dec l) := by unfold prs; rw [if_neg (by simp [hx])]
    have HD := Lib.hid (decode_any l w (by omega))
    have hdl := dec_len l.length l (Nat.le_refl _)
    have HN : Hid (∀ w', Kept w w' → Calls Tryd.prog 22 #[.string (str (dec l))] w' fun e w2 => e = .returned (prsV (prs l)) ∧ Below w'.heap.size w' w2) := fun w' hk => by rw [hR]; exact nam_any (dec l) w' (by omega) (HT.out.kp hk)
    rw [hx] at H1
    have H1 := Lib.hid H1
    unfold prsV at HN ⊢
    obtain ⟨o, ho⟩ : ∃ o, o = (prs l).1 := ⟨_, rfl⟩
    obtain ⟨e1, he1⟩ : ∃ e1, e1 = errV (prs l).2 := ⟨_, rfl⟩
    obtain ⟨D, hD⟩ : ∃ D, D = dec l := ⟨_, rfl⟩
    rw [← ho, ← he1] at HN ⊢
    rw [← hD] at HN HD
    clear hx hR ht ho he1 hD hdl
    go_enter Tryd.func10, Tryd.ntmps10
    go_wp2_with (first
      | (go_at_call 20; with_reducible refine H1.out.mono ?_; rintro e w1 ⟨rfl, rfl⟩)
      | (go_at_call 23; with_reducible refine HD.out.mono ?_; rintro e w2 ⟨rfl, hb2⟩; have hk2 := kept_of hb2; clear hb2)
      | (go_at_call 22; with_reducible refine (HN.out _ hk2).mono ?_; rintro e w3 ⟨rfl, hb3⟩; have hk3 := hk2.step hb3; clear hb3))
    go_ret2
    exact ⟨rfl, hk3⟩
end Go.Proofs.YtcfgcakmffkpmaaDoor
