/-
  What safe.Unsafe answers: the names that need leave, in a row of the call's own. Condition: at most 1000 headers, with texts of at most 2^62 bytes.
-/
import Derived.Test.YtonchnmcklgpoaaGreatDoorSf
import Derived.Test.YtonchnmcklgpoaaGreatDoorFf
import Derived.Test.YtonchnmcklgpoaaGreatDoorFa
import Derived.BigQuiet
namespace Go.Proofs.YtonchnmcklgpoaaGreatDoor
open Go.RowKit Go.Maps
set_option linter.unusedVariables false

set_option maxHeartbeats 4000000 in
set_option maxRecDepth 100000 in
theorem unsafe_any (fs : List (List UInt8 × List UInt8)) (A : Option Addr) (c : Nat) (w : World) (hn : fs.length ≤ 1000) (hf : Fs w w.heap.size A fs.length fs) (hN : ∀ f ∈ fs, f.1.length ≤ 9223372036854775807 ∧ f.2.length ≤ 9223372036854775807) : Calls Tryz.prog 17 #[.slice A fs.length c] w fun e w' => ∃ A' c', e = .returned (.slice A' (uns fs).length c') ∧ OwnT w' w.heap.size (.slice A' (uns fs).length c') (uns fs).length (uns fs) ∧ Below w.heap.size w w' := by
  have HF := Lib.hid hf
  have HNn : Hid (∀ (w' : World), Fs w' w'.heap.size A fs.length fs → Calls Tryz.prog 32 #[.slice A fs.length c] w' fun e w2 => ∃ A' c', e = .returned (.slice A' (nms fs).length c') ∧ OwnT w2 w'.heap.size (.slice A' (nms fs).length c') (nms fs).length (nms fs) ∧ Below w'.heap.size w' w2) := fun w' h => names_any fs A c w' hn h hN
  have HNa : Hid (∀ (A2 : Option Addr) (c2 n2 : Nat) (w' : World), (ask fs).length = n2 → Fs w' w'.heap.size A2 n2 (ask fs) → Calls Tryz.prog 32 #[.slice A2 n2 c2] w' fun e w2 => ∃ A' c', e = .returned (.slice A' (nms (ask fs)).length c') ∧ OwnT w2 w'.heap.size (.slice A' (nms (ask fs)).length c') (nms (ask fs)).length (nms (ask fs)) ∧ Below w'.heap.size w' w2) := fun A2 c2 n2 w' e h => by subst e; exact names_any (ask fs) A2 c2 w' (Nat.le_trans (ask_len fs) hn) h fun f hm => hN f (List.mem_filter.1 hm).1
  have HU1 : Hid (1024 < sz fs → uns fs = nms fs) := fun h => by rw [uns, if_pos h]
  have HU2 : Hid (¬ 1024 < sz fs → uns fs = nms (ask fs)) := fun h => by rw [uns, if_neg h]
  have HV : Hid (∀ w', Calls Tryz.prog 22 #[] w' fun e w2 => ∃ g1 g2 g3 m, e = .returned (.map (some m)) ∧ Tst w2 g1 g2 g3 m ∧ Below w'.heap.size w' w2) := fun w' => values_any w'
  have HE1 : Hid (sz (fs.take fs.length) = sz fs) := by show _ = _; rw [List.take_length]
  have HE2 : Hid (ask (fs.take fs.length) = ask fs) := by show _ = _; rw [List.take_length]
  have HNk : Hid (∀ (k : Nat) f, fs[k]? = some f → f.1.length ≤ 9223372036854775807 ∧ f.2.length ≤ 9223372036854775807) := fun k f h => hN f (List.mem_of_getElem? h)
  have HSb : Hid (∀ k, sz (fs.take k) ≤ 128000) := fun k => Nat.le_trans (sz_le _) (by rw [List.length_take]; omega)
  have HAb : Hid (∀ k, (ask (fs.take k)).length ≤ 1000) := fun k => Nat.le_trans (ask_len _) (by rw [List.length_take]; omega)
  have HSt : Hid (∀ k f, fs[k]? = some f → sz (fs.take (k + 1)) = sz (fs.take k) + if hdr f.1 f.2 then f.2.length else 0) := sz_take fs
  have HAt : Hid (∀ k f, fs[k]? = some f → ask (fs.take (k + 1)) = ask (fs.take k) ++ if hdr f.1 f.2 then [] else [f]) := ask_take fs
  obtain ⟨S, hS⟩ : ∃ S, S = fs.length := ⟨_, rfl⟩
  rw [← hS] at hn HF HNn HE1 HE2 ⊢
  clear hf hN hS
  go_enter Tryz.func17, Tryz.ntmps17
  go_wp2_with (first
    | (go_at_call 22; (with_reducible refine (HV.out _).mono ?_); (rintro e w1 ⟨g1, g2, g3, m, rfl, ht, hb⟩); have HT := Lib.hid ht; have HB1 := Lib.hid hb; clear ht hb))
  have HFm : Hid (OwnF 28 (w1.alloc (.cells #[] 28)) w.heap.size (.slice (some ⟨w1.heap.size, 0, none⟩) 0 0) 0 []) := ownF_made _ _ _ HB1.out.size
  have HK0 : Hid (Kept w (w1.alloc (.cells #[] 28))) := Kept.alloc HB1.out _
  have HT0 : Hid (Tst (w1.alloc (.cells #[] 28)) g1 g2 g3 m) := HT.out.kept ((Below.refl _ _).alloc (Nat.le_refl _) _)
  go_loopw [12, 4, 5] (fun i s o wr => ∃ (k sN n : Nat) (A1 : Option Addr) (c1 : Nat), k ≤ S ∧ i = .int .i64 (k : Int) ∧ s = .int .i64 (sN : Int) ∧ o = .slice A1 n c1 ∧ sN = sz (fs.take k) ∧ OwnF 28 wr w.heap.size (.slice A1 n c1) n (ask (fs.take k)) ∧ Tst wr g1 g2 g3 m ∧ Kept w wr) (fun i _ _ _ => S - (intOf i).toNat)
  case atStart => exact ⟨0, 0, 0, _, _, by omega, rfl, rfl, rfl, rfl, HFm.out, HT0.out, HK0.out⟩
  case round =>
    obtain ⟨k, sN, n, A1, c1, hk, rfl, rfl, rfl, hsz, hof, htk, hkp⟩ := hrel
    clear HFm HK0 HT0
    have HO := Lib.hid hof
    have HK := Lib.hid hkp
    have HTk := Lib.hid htk
    have Hsz := Lib.hid hsz
    have hsb : sN ≤ 128000 := by rw [hsz]; exact HSb.out k
    have Hnb : Hid (n ≤ 1000) := by show _ ≤ _; rw [← hof.len]; exact HAb.out k
    clear hof hkp htk hsz
    by_cases hlt : k < S
    · have hkS : (k : Int) < (S : Int) := by omega
      obtain ⟨b, off, f, rfl, hbl, hfk, hrg⟩ := ((HF.out.below HK.out).range hlt)
      have hNf := HNk.out k f hfk
      have hSt := HSt.out k f hfk
      have hAt := HAt.out k f hfk
      obtain ⟨p, q⟩ := f
      have HR := Lib.hid hrg
      have HHo : Hid (∀ w', Tst w' g1 g2 g3 m → Calls Tryz.prog 23 #[.map (some m), .string (str p), .string (str q)] w' fun e w2 => e = .returned (.bool (hdr p q)) ∧ Below w'.heap.size w' w2) := fun w' h => hold_any p q g1 g2 g3 m w' h hNf.1 hNf.2
      have hsq := str_size q
      by_cases hh : hdr p q = true
      · have HSz : Hid (sN + q.length = sz (fs.take (k + 1))) := by show _ = _; rw [hSt, if_pos hh, Hsz.out]
        have HAs : Hid (ask (fs.take (k + 1)) = ask (fs.take k)) := by show _ = _; rw [hAt, if_pos hh, List.append_nil]
        have hql := hdr_len hh
        rw [hh] at HHo
        obtain ⟨Q, hQ⟩ : ∃ Q, Q = q.length := ⟨_, rfl⟩
        rw [← hQ] at hsq hql HSz
        obtain ⟨s2, hs2⟩ : ∃ s2, s2 = sN + Q := ⟨_, rfl⟩
        rw [← hs2] at HSz
        have hw1 : IntKind.i64.wrap ((sN : Int) + (Q : Int)) = (s2 : Int) := by rw [IntKind.wrap_i64]; omega
        clear hNf hSt hAt hfk hrg hbl hh hs2 hQ hql
        go_wp2_with (first
          | ((with_reducible show wpList _ _ _ (⟨some 15, .load 28 _, _, _, _, _⟩ :: _) _ _); refine wp_get _ rfl 28 _ rfl b (off + k * 2) [.string (str p), .string (str q)] _ rfl HR.out Tryz.underlying28 rfl (by kernel_rfl) ?_; simp only [Act.put, List.setIfInBounds_toArray, List.set_cons_zero, List.set_cons_succ])
          | ((with_reducible show wpList _ _ _ (⟨some 7, .alloc _, _, _, _, _⟩ :: _) _ _); refine wp_new _ rfl 28 rfl [.string ⟨#[]⟩, .string ⟨#[]⟩] (by kernel_rfl) ?_; intro w7 g7 HB7 hF7; simp only [Act.put, List.setIfInBounds_toArray, List.set_cons_zero, List.set_cons_succ])
          | ((with_reducible show wpList _ _ _ (⟨none, .store 28 _ _, _, _, _, _⟩ :: _) _ _); refine wp_putAll _ rfl 28 _ _ rfl g7 _ _ [.string (str p), .string (str q)] rfl rfl HB7 rfl (by kernel_rfl) (by simp [Value.oneCell']) ?_; intro w8 HC7 hU8; simp only [Act.put]; have d0 := HC7.cell (i := 0) (v := .string (str p)) rfl; have d1 := HC7.cell (i := 1) (v := .string (str q)) rfl; have HK8 := Lib.hid (hF7.below.trans (hU8.below (by rw [hF7.is]; exact Nat.le_refl _))); have HT8 := Lib.hid (HTk.out.kept HK8.out))
          | (go_at_call 23; (with_reducible refine (HHo.out _ HT8.out).mono ?_); (rintro e w9 ⟨rfl, hb9⟩); have HC9 := HC7.kept hb9; have e1 := HC9.cell (i := 1) (v := .string (str q)) rfl; have HK9 := Lib.hid (HK8.out.trans (hb9.mono HK8.out.size)); have HO9 := Lib.hid (HO.out.kept HK9.out); have HT9 := Lib.hid (HT8.out.kept hb9); have HKw9 := Lib.hid (HK.out.step HK9.out); clear hb9 d0 d1 hU8 hF7 HB7))
        go_roundw
        case rel => exact ⟨k + 1, s2, n, A1, c1, by omega, by go_num, rfl, rfl, HSz.out, by rw [HAs.out]; exact HO9.out, HT9.out, HKw9.out⟩
        case measure => simp [intOf]; omega
      · have hh2 : hdr p q = false := by simpa using hh
        have HSz : Hid (sN = sz (fs.take (k + 1))) := by show _ = _; rw [hSt, if_neg hh, Nat.add_zero, Hsz.out]
        have HAs : Hid (ask (fs.take (k + 1)) = ask (fs.take k) ++ [(p, q)]) := by show _ = _; rw [hAt, if_neg hh]
        rw [hh2] at HHo
        clear hNf hSt hAt hfk hrg hbl hh hh2
        go_wp2_with (first
          | ((with_reducible show wpList _ _ _ (⟨some 15, .load 28 _, _, _, _, _⟩ :: _) _ _); refine wp_get _ rfl 28 _ rfl b (off + k * 2) [.string (str p), .string (str q)] _ rfl HR.out Tryz.underlying28 rfl (by kernel_rfl) ?_; simp only [Act.put, List.setIfInBounds_toArray, List.set_cons_zero, List.set_cons_succ])
          | ((with_reducible show wpList _ _ _ (⟨some 7, .alloc _, _, _, _, _⟩ :: _) _ _); refine wp_new _ rfl 28 rfl [.string ⟨#[]⟩, .string ⟨#[]⟩] (by kernel_rfl) ?_; intro w7 g7 HB7 hF7; simp only [Act.put, List.setIfInBounds_toArray, List.set_cons_zero, List.set_cons_succ])
          | ((with_reducible show wpList _ _ _ (⟨none, .store 28 _ _, _, _, _, _⟩ :: _) _ _); refine wp_putAll _ rfl 28 _ _ rfl g7 _ _ [.string (str p), .string (str q)] rfl rfl HB7 rfl (by kernel_rfl) (by simp [Value.oneCell']) ?_; intro w8 HC7 hU8; simp only [Act.put]; have d0 := HC7.cell (i := 0) (v := .string (str p)) rfl; have d1 := HC7.cell (i := 1) (v := .string (str q)) rfl; have HK8 := Lib.hid (hF7.below.trans (hU8.below (by rw [hF7.is]; exact Nat.le_refl _))); have HT8 := Lib.hid (HTk.out.kept HK8.out))
          | (go_at_call 23; (with_reducible refine (HHo.out _ HT8.out).mono ?_); (rintro e w9 ⟨rfl, hb9⟩); have HC9 := HC7.kept hb9; have e1 := HC9.cell (i := 1) (v := .string (str q)) rfl; have HK9 := Lib.hid (HK8.out.trans (hb9.mono HK8.out.size)); have HO9 := Lib.hid (HO.out.kept HK9.out); have HT9 := Lib.hid (HT8.out.kept hb9); have HKw9 := Lib.hid (HK.out.step HK9.out); clear hb9 d0 d1 hU8 hF7 HB7)
          | ((with_reducible show wpList _ _ _ (⟨some 28, .load 28 _, _, _, _, _⟩ :: _) _ _); refine wp_get _ rfl 28 _ rfl g7 (0) [.string (str p), .string (str q)] _ rfl HC9.whole Tryz.underlying28 rfl (by kernel_rfl) ?_; simp only [Act.put, List.setIfInBounds_toArray, List.set_cons_zero, List.set_cons_succ])
          | ((with_reducible show wpList _ _ _ (⟨some 30, .call _, _, _, _, _⟩ :: _) _ _); refine wp_appF _ rfl _ _ 25 28 rfl Tryz.underlying25 fd_info w.heap.size _ n (ask (fs.take k)) rfl (HO9.out.alloc _) (w9.heap.size + 1) _ 1 1 [(p, q)] rfl (Fs.one _ _ _ _ _ rfl) (by have := Hnb.out; omega) (Nat.le_trans HKw9.out.size (by simp)) (n + 1) rfl ?_; intro A2 c2 w10 hc2 hcm2 hown2 hb2 hgr2; simp only [Act.put, List.setIfInBounds_toArray, List.set_cons_zero, List.set_cons_succ]; have HT10 := Lib.hid (HT9.out.far (((Below.refl w9.heap.size w9).alloc (Nat.le_refl _) _)) hgr2 (HO9.out.alloc _)); have HK10 := Lib.hid ((HKw9.out.alloc _).base hb2); have HO10 := Lib.hid hown2; clear hc2 hcm2 hown2 hb2 hgr2))
        go_roundw
        case rel => exact ⟨k + 1, sN, n + 1, A2, c2, by omega, by go_num, rfl, rfl, HSz.out, by rw [HAs.out]; exact HO10.out, HT10.out, HK10.out⟩
        case measure => simp [intOf]; omega
    · have hkS : ¬ (k : Int) < (S : Int) := by omega
      have hke : Hid (k = S) := by show _ = _; omega
      have HSe : Hid (sN = sz fs) := by show _ = _; rw [Hsz.out, hke.out, HE1.out]
      by_cases hb : 1024 < sN
      · have hb2 : (1024 : Int) < (sN : Int) := by omega
        have HUe := Lib.hid (HU1.out (by rw [← HSe.out]; exact hb))
        have HFr : Hid (Fs wr wr.heap.size A S fs) := HF.out.kept HK.out
        clear hb
        go_wp2_with (first
          | (go_at_call 32; (with_reducible refine (HNn.out _ HFr.out).mono ?_); (rintro e w3 ⟨A3, c3, rfl, hown3, hb3⟩); have HO3 := Lib.hid hown3; have HB3 := Lib.hid hb3; clear hown3 hb3))
        go_ret
        rw [HUe.out]
        exact ⟨A3, c3, rfl, HO3.out.down HK.out.size, HK.out.step HB3.out⟩
      · have hb2 : ¬ (1024 : Int) < (sN : Int) := by omega
        have HUe := Lib.hid (HU2.out (by rw [← HSe.out]; exact hb))
        have ho := HO.out
        rw [hke.out, HE2.out] at ho
        have hle := ho.len
        obtain ⟨A8, c8, he8, _, _, hfs8⟩ := ho.form
        cases he8
        have HFs8 := Lib.hid hfs8
        have Hle := Lib.hid hle
        clear hb ho hle hfs8
        go_wp2_with (first
          | (go_at_call 32; (with_reducible refine (HNa.out _ _ _ _ Hle.out HFs8.out).mono ?_); (rintro e w3 ⟨A3, c3, rfl, hown3, hb3⟩); have HO3 := Lib.hid hown3; have HB3 := Lib.hid hb3; clear hown3 hb3))
        go_ret
        rw [HUe.out]
        exact ⟨A3, c3, rfl, HO3.out.down HK.out.size, HK.out.step HB3.out⟩
end Go.Proofs.YtonchnmcklgpoaaGreatDoor
