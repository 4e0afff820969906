/-
  What percent.In and percent.Encode answer; nothing that was there turns. Condition: texts of at most 100000000 bytes.
-/
import Derived.Test.YtkiafileelcknaaPlain
namespace Go.Proofs.Ytkiafileelcknaa
open Go.RowKit


theorem str_at (l : List UInt8) (k : Nat) (hk : k < l.length) (h : k < (str l).size) : ((str l)[k]'h).toNat = (l.getD k 0).toNat := by
  simp [str, List.getD, List.getElem?_eq_getElem hk, ByteArray.getElem_eq_getElem_data]

theorem field34 (f : Value) (w : World) : (Instr.field 34 (.agg #[f]) 0).run Try.prog w = .ok f w := by
  simp [Instr.field, asAgg, run_underlying Try.underlying34, part, Try.isAgg28]

set_option maxHeartbeats 1000000 in
theorem in_any (n : Int) (c : UInt8) (w : World) : Calls Try.prog 11 #[.int .i64 n, vb c] w fun e w' => e = .returned (.bool (inS n c)) ∧ Below w.heap.size w w' := by
  go_enter Try.func11, Try.ntmps11
  have FA := Lib.hid (find_any n w)
  go_wp2_with fail
  with_reducible refine FA.out.mono ?_
  rintro e w1 ⟨f, rfl, hf, hb⟩
  obtain ⟨g, lb, rfl, en, hc⟩ := hf
  have hen : ∀ (args : Array Value) (w : World), (callFunc g args).run Try.prog w = .ok (.enter g args) w := en
  have hfl := field34
  go_wp2_with fail
  with_reducible refine (hc w1 c (Agree.refl _ _ _)).mono ?_
  rintro e w2 ⟨rfl, rfl⟩
  go_wp2
  go_ret
  exact ⟨rfl, hb⟩

theorem bs_three (w : World) (x y z : Int) (a b c : UInt8) (hx : x = (a.toNat : Int)) (hy : y = (b.toNat : Int)) (hz : z = (c.toNat : Int)) : Bs (w.alloc (.cells #[.int .u8 x, .int .u8 y, .int .u8 z] 5)) (w.heap.size + 1) (some ⟨w.heap.size, 0, none⟩) 3 [a, b, c] := by
  subst hx hy hz
  have := Bs.new w [a, b, c] #[vb a, vb b, vb c] rfl 3 rfl
  simpa [vb] using this
theorem hex_str (n : Nat) (hn : n < 16) (h : n < (ByteArray.mk #[48, 49, 50, 51, 52, 53, 54, 55, 56, 57, 65, 66, 67, 68, 69, 70]).size) : ((ByteArray.mk #[48, 49, 50, 51, 52, 53, 54, 55, 56, 57, 65, 66, 67, 68, 69, 70])[n]'h).toNat = (hex n).toNat := str_at hexs n (by simpa [hexs] using hn) h

set_option maxHeartbeats 4000000 in
set_option maxRecDepth 100000 in
theorem encode_any (n : Int) (l : List UInt8) (w : World) (hl : l.length ≤ 100000000) : Calls Try.prog 13 #[.int .i64 n, .string (str l)] w fun e w' => e = .returned (.string (str (enc (inS n) l))) ∧ Below w.heap.size w w' := by
  obtain ⟨i0, hi, hz, hi1, hi2⟩ := info_parts byte_info
  have hsz := str_size l
  have hgb := fun k hk h => str_at l k hk h
  have hts := fun k hk => enc_take_succ (inS n) l k hk
  have hel := fun k => enc_len (inS n) (l.take k)
  have hel' : Hid (∀ k, (enc (inS n) (l.take k)).length ≤ 300000000) := fun k => by have := hel k; rw [List.length_take] at this; omega
  clear hel
  have hall : Hid (enc (inS n) (l.take l.length) = enc (inS n) l) := by
    show _ = _
    rw [List.take_length]
  obtain ⟨S, hS⟩ : ∃ S, S = l.length := ⟨_, rfl⟩
  obtain ⟨p, hp⟩ : ∃ p, p = inS n := ⟨_, rfl⟩
  have FA := Lib.hid (find_any n w)
  rw [← hS] at hsz hgb hts hl hall
  rw [← hp] at FA hts hel' hall ⊢
  clear hp hS
  have HGB := Lib.hid hgb
  have HTS := Lib.hid hts
  clear hgb hts
  go_enter Try.func13, Try.ntmps13
  go_wp2_with (first
    | (go_at_call 17; with_reducible refine FA.out.mono ?_; rintro e w1 ⟨f, rfl, hf, hb⟩; have hf1 : ∀ u ∈ [f], u.oneCell' = true := by simpa using hf.one)
    | ((with_reducible show wpList _ _ _ (⟨some 5, .alloc _, _, _, _, _⟩ :: _) _ _); refine wp_new _ rfl 34 rfl _ y34 ?_; intro w2 g5 B2 F2; simp only [Act.put, List.setIfInBounds_toArray, List.set_cons_zero, List.set_cons_succ])
    | ((with_reducible show wpList _ _ _ (⟨none, .store 34 (.tmp 5) _, _, _, _, _⟩ :: _) _ _); refine wp_putAll _ rfl 34 (.tmp 5) (.tmp 10) rfl g5 34 _ [f] rfl rfl B2 rfl z34 hf1 ?_; intro w3 B3 U3; simp only [Act.put])
    | (at_make; refine wpList_make_own _ rfl _ _ 29 rfl w3.heap.size 5 i0 _ 1 Try.underlying29 hi hz hi1 .i64 .i64 _ S rfl rfl rfl (by rw [hi2]; omega) (by unfold maxLen; omega) (Nat.le_refl _) ?_; intro w4 hown4 hgr4))
  have hn3 : Hid (w.heap.size ≤ w3.heap.size ∧ w1.heap.size ≤ w3.heap.size) := ⟨by rw [U3.size, F2.size, F2.is]; have := hb.size; omega, by rw [U3.size, F2.size, F2.is]; omega⟩
  have b3 : Below w.heap.size w w3 := (hb.trans (F2.below.mono hb.size)).trans (U3.below (by rw [F2.is]; exact hb.size))
  have hf3 : Has w.heap.size w1.heap.size w3 f p := hf.at_ ((agree_below F2.below (Nat.le_refl _)).trans (agree_upd U3 (Or.inr (Nat.le_of_eq F2.is.symm))))
  have hown4 : Own w4 w3.heap.size _ 0 [] := hown4
  have b4 : Kept w3 w4 := (Below.refl _ _).grown hgr4 (Nat.le_refl _) (fun k h => by cases h)
  clear hf B2 F2 U3 hb FA hgr4 hf1
  obtain ⟨g, lb, rfl, en, hc⟩ := hf3
  have hen : ∀ (args : Array Value) (w : World), (callFunc g args).run Try.prog w = .ok (.enter g args) w := en
  have HC := Lib.hid hc
  clear hc en
  go_loopw [16, 6] (fun i v wr => ∃ k : Nat, k ≤ S ∧ i = .int .i64 (k : Int) ∧ Kept w3 wr ∧ Own wr w3.heap.size v (enc p (l.take k)).length (enc p (l.take k))) (fun i _ _ => S - (intOf i).toNat)
  case atStart => exact ⟨0, by omega, rfl, b4, by simpa [enc] using hown4⟩
  case round =>
    obtain ⟨k, hk, rfl, hkp, hown⟩ := hrel
    obtain ⟨L, hL⟩ : ∃ L, L = enc p (l.take k) := ⟨_, rfl⟩
    have hLl : Hid (L.length ≤ 300000000) := by show L.length ≤ _; rw [hL]; exact hel'.out k
    rw [← hL] at hown
    obtain ⟨NL, hNL⟩ : ∃ NL, NL = L.length := ⟨_, rfl⟩
    rw [← hNL] at hown hLl
    by_cases hlt : k < S
    · obtain ⟨c, hcd⟩ : ∃ c, c = l.getD k 0 := ⟨_, rfl⟩
      have hts : Hid (enc p (l.take (k + 1)) = L ++ enc1 p c) := by show _ = _; rw [HTS.out k hlt, hL, hcd]
      have hcell : wr.cell? ⟨g5, 0, none⟩ = some (.func (.func g) #[] lb) := (B3.kept hkp).cell rfl
      have hcall := HC.out wr c ((agree_below hkp hn3.out.2))
      obtain ⟨m, hm⟩ : ∃ m, m = c.toNat := ⟨_, rfl⟩
      have hm8 : m < 256 := by rw [hm]; exact c.toNat_lt
      have hget : ∀ h, ((str l)[k]'h).toNat = m := fun h => by rw [hm, hcd]; exact HGB.out k hlt h
      unfold vb at hcall
      rw [← hm] at hcall
      have HM := Lib.hid hm
      have HL := Lib.hid (And.intro hL hNL)
      have hkS : (k : Int) < (S : Int) := by omega
      clear hm hcd hL hNL
      cases hpc : p c
      · rw [hpc] at hcall
        have h1 : Hid (enc1 p c = [c]) := by show _ = _; simp [enc1, hpc]
        clear hpc
        have hkz := hkp.size
        go_wp2_with (first
          | (go_at_fn g; with_reducible refine hcall.mono ?_; rintro e w5 ⟨rfl, rfl⟩)
          | (at_builtin; refine wp_app _ rfl (.tmp 35) (.tmp 37) rfl w3.heap.size _ NL L rfl (hown.alloc _) (w5.heap.size + 1) _ 1 1 [c] rfl (Bs.one' _ _ _ (by rw [HM.out])) (by have := hLl.out; omega) (by simp; omega) ?_; intro v6 w6 hown6 hb6))
        go_roundw
        case rel =>
          refine ⟨k + 1, by omega, by go_num, hkp.base (((Below.refl _ _).alloc hkz _).trans hb6), ?_⟩
          rw [hts.out, h1.out, List.length_append, ← HL.out.2]
          exact hown6
        case measure => simp [intOf]; omega
      · rw [hpc] at hcall
        have h1 : Hid (enc1 p c = [37, hex (m / 16), hex (m % 16)]) := by show _ = _; simp [enc1, hpc, HM.out]
        clear hpc
        have hkz := hkp.size
        obtain ⟨q, hq⟩ : ∃ q, q = m / 16 := ⟨_, rfl⟩
        obtain ⟨r, hr⟩ : ∃ r, r = m % 16 := ⟨_, rfl⟩
        have hq16 : q < 16 := by omega
        have hr16 : r < 16 := by omega
        obtain ⟨x, hx⟩ : ∃ x, x = (hex q).toNat := ⟨_, rfl⟩
        obtain ⟨y, hy⟩ : ∃ y, y = (hex r).toNat := ⟨_, rfl⟩
        have hgx : ∀ h, ((ByteArray.mk #[48, 49, 50, 51, 52, 53, 54, 55, 56, 57, 65, 66, 67, 68, 69, 70])[q]'h).toNat = x := fun h => by rw [hx]; exact hex_str q hq16 h
        have hgy : ∀ h, ((ByteArray.mk #[48, 49, 50, 51, 52, 53, 54, 55, 56, 57, 65, 66, 67, 68, 69, 70])[r]'h).toNat = y := fun h => by rw [hy]; exact hex_str r hr16 h
        rw [← hq, ← hr] at h1
        have hqi : (m : Int) / 16 = (q : Int) := by omega
        have hri : bits .and .u8 (m : Int) 15 = (r : Int) := (u8_and15 (x := (m : Int)) (by omega) (by omega)).trans (by omega)
        have hqi16 : (q : Int) < 16 := by omega
        have hri16 : (r : Int) < 16 := by omega
        have HX := Lib.hid (And.intro hx hy)
        clear hq hr hx hy
        go_wp2_with (go_at_fn g; with_reducible refine hcall.mono ?_; rintro e w5 ⟨rfl, rfl⟩)
        refine wp_region_held_drew (S := fun W => Kept w3 W) (by kernel_rfl) hkp.drew (fun hS => ?_)
        refine wpAnyH_take (i := 0) (oi := ⟨some 26, _, _, _, _, _⟩) (v := ?va0) rfl (by kernel_rfl) (by kernel_rfl) (by kernel_rfl) (fun _ _ _ h => h) (Or.inl ⟨by rfl, ?ya0⟩) hS ?ra0
        case ya0 => intro W hW; go_simp; first | done | with_reducible rfl
        simp only [Act.put, List.setIfInBounds_toArray, List.set_cons_zero, List.set_cons_succ]
        refine wpAnyH_take (i := 1) (oi := ⟨some 27, _, _, _, _, _⟩) (v := ?va1) rfl (by kernel_rfl) (by kernel_rfl) (by kernel_rfl) (fun _ _ _ h => h) (Or.inl ⟨by rfl, ?ya1⟩) hS ?ra1
        case ya1 => intro W hW; go_simp; first | done | with_reducible rfl
        simp only [Act.put, List.setIfInBounds_toArray, List.set_cons_zero, List.set_cons_succ]
        refine wpAnyH_take (i := 2) (oi := ⟨some 28, _, _, _, _, _⟩) (v := ?va2) rfl (by kernel_rfl) (by kernel_rfl) (by kernel_rfl) (fun _ _ _ h => h) (Or.inl ⟨by rfl, ?ya2⟩) hS ?ra2
        case ya2 => intro W hW; go_simp; first | done | with_reducible rfl
        simp only [Act.put, List.setIfInBounds_toArray, List.set_cons_zero, List.set_cons_succ]
        refine wpAnyH_take (i := 3) (oi := ⟨some 29, _, _, _, _, _⟩) (v := ?va3) rfl (by kernel_rfl) (by kernel_rfl) (by kernel_rfl) (fun _ _ _ h => h) (Or.inl ⟨by rfl, ?ya3⟩) hS ?ra3
        case ya3 => intro W hW; go_simp; first | done | with_reducible rfl
        simp only [Act.put, List.setIfInBounds_toArray, List.set_cons_zero, List.set_cons_succ]
        refine wpAnyH_take (i := 4) (oi := ⟨some 30, _, _, _, _, _⟩) (v := ?va4) rfl (by kernel_rfl) (by kernel_rfl) (by kernel_rfl) (fun _ _ _ h => h) (Or.inl ⟨by rfl, ?ya4⟩) hS ?ra4
        case ya4 => intro W hW; go_simp; first | done | with_reducible rfl
        simp only [Act.put, List.setIfInBounds_toArray, List.set_cons_zero, List.set_cons_succ]
        refine wpAnyH_take (i := 5) (oi := ⟨some 31, _, _, _, _, _⟩) (v := ?va5) rfl (by kernel_rfl) (by kernel_rfl) (by kernel_rfl) (fun _ _ _ h => h) (Or.inl ⟨by rfl, ?ya5⟩) hS ?ra5
        case ya5 => intro W hW; go_simp; first | done | with_reducible rfl
        simp only [Act.put, List.setIfInBounds_toArray, List.set_cons_zero, List.set_cons_succ]
        refine wpAnyH_take (i := 6) (oi := ⟨some 32, _, _, _, _, _⟩) (v := ?va6) rfl (by kernel_rfl) (by kernel_rfl) (by kernel_rfl) (fun _ _ _ h => h) (Or.inl ⟨by rfl, ?ya6⟩) hS ?ra6
        case ya6 => intro W hW; go_simp; first | done | with_reducible rfl
        simp only [Act.put, List.setIfInBounds_toArray, List.set_cons_zero, List.set_cons_succ]
        refine wpAnyH_ready (rs := [7]) (by kernel_rfl) (by simp) ?_
        refine (AllReadyH.cons (o := ⟨some 33, _, _, _, _, _⟩) rfl (fun K hK_ => ?_) AllReadyH.nil)
        go_simp
        refine hK_.out _ _ (hS.alloc _) (fun hS3 => ?_)
        clear hK_ K
        refine wpAnyH_ready (rs := [8]) (by kernel_rfl) (by simp) ?_
        refine (AllReadyH.cons (o := ⟨some 34, _, _, _, _, _⟩) rfl (fun K hK_ => ?_) AllReadyH.nil)
        refine step_appS _ rfl (.tmp 26) (.tmp 33) rfl w3.heap.size _ NL L rfl (hown.alloc _).drew (w5.heap.size + 1) _ 3 3 _ rfl (bs_three w5 _ _ _ 37 (hex q) (hex r) rfl ?e2 ?e3).drew (by have := hLl.out; omega) (by simp; omega) (NL + 3) (L ++ [37, hex q, hex r]) rfl rfl ?_
        case e2 => rw [HX.out.1]
        case e3 => rw [HX.out.2]
        intro A7 c7 w7 hc7 hS7 hown7 hbel7
        have K7 : Kept w3 w7 := hS3.base hbel7
        refine hK_.out _ _ K7 (fun _ => ?_)
        clear hK_ K
        simp only [Act.put, List.setIfInBounds_toArray, List.set_cons_zero, List.set_cons_succ]
        refine wpAnyH_take (i := 9) (oi := ⟨some 6, _, _, _, _, _⟩) (v := ?vo9) rfl (by kernel_rfl) (by kernel_rfl) (by kernel_rfl) (fun _ _ _ h => h) (Or.inl ⟨by rfl, ?yo9⟩) K7 ?ro9
        case yo9 => intro W hW; go_simp; first | done | with_reducible rfl
        simp only [Act.put, List.setIfInBounds_toArray, List.set_cons_zero, List.set_cons_succ]
        refine wpAnyH_done (by kernel_rfl) ?_ _
        go_wp2_with fail
        go_roundw
        case rel =>
          refine ⟨k + 1, by omega, by go_num, K7, ?_⟩
          rw [hts.out, h1.out, List.length_append, ← HL.out.2]
          exact hown7
        case measure => simp [intOf]; omega
    · have hk' : Hid (k = S) := by show k = S; omega
      have hkS : (S : Int) ≤ (k : Int) := by omega
      clear hk hlt
      obtain ⟨A, cc, rfl, hcc, hs⟩ := hown.form
      have HL := Lib.hid (And.intro hL hNL)
      clear hL hNL
      have hst := run_str wr _ A NL cc L hs
      go_wp2_with fail
      go_ret
      refine ⟨?_, b3.trans (hkp.mono b3.size)⟩
      rw [← hall.out, ← hk'.out, ← HL.out.1]
      rfl
end Go.Proofs.Ytkiafileelcknaa
