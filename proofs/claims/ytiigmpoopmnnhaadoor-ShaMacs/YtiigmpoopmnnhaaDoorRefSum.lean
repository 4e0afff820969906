/-
  What transeptref03.Sum answers: the digest of the bytes; nothing that was in memory turns. Condition: at most 100000 bytes.
-/
import Derived.Test.YtiigmpoopmnnhaaDoorBlock
import Derived.Test.YtiigmpoopmnnhaaDoorEnding
namespace Go.Proofs.YtiigmpoopmnnhaaDoor
open Go.RowKit

theorem end0 (n : Nat) : endk n 0 = 128 :: List.replicate (zerosFor n) 0 := by simp [endk]
theorem end8 (n : Nat) : endk n 8 = ending n := by simp [endk, ending, List.take_of_length_le, be8_length]
theorem endk_len (n j : Nat) (h : j ≤ 8) : (endk n j).length ≤ 80 := by
  have := zerosFor_le n
  simp [endk, be8_length]
  omega
theorem conv_one (w : World) (x : Int) (c : UInt8) (h : x = (c.toNat : Int)) : (convert 22 9 (.slice (some ⟨w.heap.size, 0, none⟩) 1 1)).run Tryd.prog (w.alloc (.cells #[.int .u8 x] 5)) = .ok (.string (str [c])) (w.alloc (.cells #[.int .u8 x] 5)) :=
  run_str _ _ _ 1 1 [c] (Bs.one' w x c h)
theorem dig_more (ws : List Nat) (k : Nat) (h : k < 8) : (dig ws).take (4 * k) ++ [UInt8.ofNat (ws.getD k 0 / 2 ^ 24), UInt8.ofNat (ws.getD k 0 / 2 ^ 16), UInt8.ofNat (ws.getD k 0 / 2 ^ 8), UInt8.ofNat (ws.getD k 0)] = (dig ws).take (4 * (k + 1)) := by
  rcases lt8 h with rfl | rfl | rfl | rfl | rfl | rfl | rfl | rfl <;> simp [dig, List.range, List.range.loop]

theorem byte24 (x : Nat) : (x : Int) / 16777216 % 256 = ((UInt8.ofNat (x / 2 ^ 24)).toNat : Int) := by simp
theorem byte16 (x : Nat) : (x : Int) / 65536 % 256 = ((UInt8.ofNat (x / 2 ^ 16)).toNat : Int) := by simp
theorem byte8 (x : Nat) : (x : Int) / 256 % 256 = ((UInt8.ofNat (x / 2 ^ 8)).toNat : Int) := by simp
theorem byte0 (x : Nat) : (x : Int) % 256 = ((UInt8.ofNat x).toNat : Int) := by simp
theorem Bs.four (w : World) (x1 x2 x3 x4 : Int) (b1 b2 b3 b4 : UInt8) (h1 : x1 = (b1.toNat : Int)) (h2 : x2 = (b2.toNat : Int)) (h3 : x3 = (b3.toNat : Int)) (h4 : x4 = (b4.toNat : Int)) :
    Bs (w.alloc (.cells #[.int .u8 x1, .int .u8 x2, .int .u8 x3, .int .u8 x4] 5)) (w.heap.size + 1) (some ⟨w.heap.size, 0, none⟩) 4 [b1, b2, b3, b4] := by
  subst h1 h2 h3 h4
  exact (Bs.new w [b1, b2, b3, b4] _ rfl 4 rfl).more (by simp)

set_option maxHeartbeats 2000000 in
set_option maxRecDepth 100000 in
theorem refSum_any (l : List UInt8) (w : World) (hl : l.length ≤ 100000) : Calls Tryd.prog 12 #[.string (str l)] w fun e w' => e = .returned (.string (str (digest l))) ∧ Below w.heap.size w w' := by
  obtain ⟨n, hn⟩ : ∃ n, n = l.length := ⟨_, rfl⟩
  have hs : (str l).size = n := by rw [str_size, hn]
  obtain ⟨P8, hP8⟩ : ∃ P, P = 8 * n := ⟨_, rfl⟩
  have eP : (n : Int) * 8 = (P8 : Int) := by omega
  have lP : P8 ≤ 800000 := by omega
  have ln : n ≤ 100000 := by omega
  have h80 : str l ++ ({ data := #[128] } : ByteArray) = str (l ++ [128]) := str_append l [128]
  have q1 : ¬ 9223372036854775807 < n + 1 := by omega
  have HN := Lib.hid hn
  have HP8 := Lib.hid hP8
  clear hn hP8 hl
  go_enter Tryd.func12, Tryd.ntmps12
  go_wp2_with fail
  clear h80 hs q1 eP
  go_loop [0] (fun v => ∃ (k : Nat) (S : List UInt8), v = .string (str S) ∧ k ≤ zerosFor n ∧ S.length = n + 1 + k ∧ Hid (S = l ++ (128 :: List.replicate k 0))) (fun v => match v with | .string b => 200000 - b.size | _ => 0)
  case atStart => exact ⟨0, l ++ [128], rfl, by omega, by simp [HN.out], rfl⟩
  case round =>
    obtain ⟨k, S, rfl, hk, hS, HS⟩ := hrel
    have hz := zerosFor_le n
    obtain ⟨N, hN⟩ : ∃ N, N = S.length := ⟨_, rfl⟩
    have hsz : (str S).size = N := by rw [str_size, hN]
    obtain ⟨q, hq⟩ : ∃ q, q = N % 64 := ⟨_, rfl⟩
    have e1 : (N : Int) % 64 = (q : Int) := by omega
    have lN : N ≤ 150000 := by omega
    by_cases hlt : k < zerosFor n
    · have hg := zerosFor_goes n k hlt
      have ne1 : ¬ q = 56 := by rw [hq, hN, hS]; exact hg
      have ne2 : ¬ (q : Int) = 56 := by omega
      have h00 : str S ++ ({ data := #[0] } : ByteArray) = str (S ++ [0]) := str_append S [0]
      have HSZ : Hid ((str (S ++ [0])).size = N + 1) := by show _ = _; rw [str_size, hN]; simp
      have HS2 : Hid (S ++ [0] = l ++ (128 :: List.replicate (k + 1) 0)) := by
        show _ = _
        rw [HS.out]
        simp [List.replicate_succ']
      have HL2 : Hid ((S ++ [0]).length = n + 1 + (k + 1)) := by show _ = _; simp [hS]; omega
      have q2 : ¬ 9223372036854775807 < N + 1 := by omega
      generalize S ++ [0] = S2 at *
      clear hN hS hq hg
      go_wp2_with fail
      go_round
      case rel => exact ⟨k + 1, S2, rfl, by omega, HL2.out, HS2⟩
      case measure =>
        show 200000 - (str S2).size < 200000 - (str S).size
        rw [HSZ.out, hsz]
        omega
    · have hkz : k = zerosFor n := by omega
      subst hkz
      have hg := zerosFor_stop n
      have heq : q = 56 := by rw [hq, hN, hS]; exact hg
      subst heq
      have HS0 : Hid (S = l ++ endk n 0) := by show _ = _; rw [HS.out, end0]
      have HSN := Lib.hid hN
      clear hN hS hq hg HS hlt hk
      go_wp2_with fail
      clear e1 hsz
      go_loopw [0, 4] (fun v x wr => ∃ (j : Nat) (S : List UInt8) (i : Int), v = .string (str S) ∧ x = .int .i64 i ∧ j ≤ 8 ∧ i = 56 - 8 * (j : Int) ∧ Hid (S = l ++ endk n j) ∧ Below w.heap.size w wr) (fun _ x _ => (intOf x + 8).toNat)
      case atStart => exact ⟨0, S, 56, rfl, rfl, by omega, by omega, HS0, Below.refl _ _⟩
      case round =>
        obtain ⟨j, S, i, rfl, rfl, hj, hi, HS, hbel⟩ := hrel
        have hsz := hbel.size
        by_cases h8 : j < 8
        · obtain ⟨sh, hsh⟩ : ∃ sh : Nat, i = (sh : Int) := ⟨56 - 8 * j, by omega⟩
          have hsj : sh = 56 - 8 * j := by omega
          subst hsh
          have ls : sh ≤ 64 := by omega
          obtain ⟨y, hy, e4⟩ : ∃ y : Nat, P8 / 2 ^ sh = y ∧ (P8 : Int) / 2 ^ sh = (y : Int) := ⟨_, rfl, by simp⟩
          have cv := fun w => conv_one w ((y : Int) % 256) (UInt8.ofNat y) (byte_int y)
          have hE : S ++ [UInt8.ofNat y] = l ++ endk n (j + 1) := by
            rw [HS.out, List.append_assoc, ← hy, hsj, HP8.out, endk_more n j h8]
          have hap := str_append S [UInt8.ofNat y]
          have hz1 : (str S).size + (str [UInt8.ofNat y]).size ≤ 200000 := by
            rw [str_size, str_size, HS.out]
            have := endk_len n j hj
            have := HN.out
            simp
            omega
          have q3 : ¬ 9223372036854775807 < (str S).size + (str [UInt8.ofNat y]).size := by omega
          have HE := Lib.hid hE
          have HI := Lib.hid (And.intro hi (And.intro hy hsj))
          generalize S ++ [UInt8.ofNat y] = S2 at *
          generalize UInt8.ofNat y = by_ at *
          clear hi hy hsj hE hz1
          go_wp2_with fail
          go_roundw
          case rel =>
            have := HI.out.1
            exact ⟨j + 1, S2, _, rfl, rfl, by omega, by omega, HE, (hbel.alloc hsz _)⟩
          case measure =>
            simp [intOf]
            omega
        · have hj8 : j = 8 := by omega
          subst hj8
          have hi8 : i = -8 := by omega
          subst hi8
          rw [end8] at HS
          clear hi
          go_wp2_with fail
          have R8 : ∀ w, Calls Tryd.prog 18 #[.int .i64 8, .bool false] w fun e w' => ∃ A c, e = .returned (.slice A 8 c) ∧ 8 ≤ c ∧ Us w' w'.heap.size A 8 H0.list ∧ Below w.heap.size w w' := fun w => by
            have := roots_any 8 false w (by omega)
            rw [roots8] at this
            exact this
          have R64 : ∀ w, Calls Tryd.prog 18 #[.int .i64 64, .bool true] w fun e w' => ∃ A c, e = .returned (.slice A 64 c) ∧ 64 ≤ c ∧ Us w' w'.heap.size A 64 cubes ∧ Below w.heap.size w w' := fun w => by
            have := roots_any 64 true w (by omega)
            rw [roots64] at this
            exact this
          refine (R8 wr).mono ?_
          rintro e w1 ⟨A5, c5, rfl, hc5, hD1, hb1⟩
          go_wp2_with fail
          refine (R64 w1).mono ?_
          rintro e w2 ⟨A6, c6, rfl, hc6, hR2, hb2⟩
          have bel2 : Below w.heap.size w w2 := (hbel.trans (hb1.mono hsz)).trans (hb2.mono (by have := hb1.size; omega))
          have hD2 := (hD1.below hb2).more hb2.size
          obtain ⟨M, hM⟩ : ∃ M, S.length = 64 * M := by
            have h1 := ending_full n
            have h2 := HN.out
            refine ⟨S.length / 64, ?_⟩
            rw [HS.out, List.length_append, ← h2]
            omega
          have lS : S.length ≤ 200000 := by
            have h1 := ending_length n
            have h2 := zerosFor_le n
            have h3 := HN.out
            rw [HS.out, List.length_append]
            omega
          have HD : Hid (digest l = dig (upto S M).list) := by
            show digest l = _
            have : S.length / 64 = M := by omega
            rw [digest, ← HN.out, ← HS.out, wordsOf, this]
          have hss := str_size S
          have HMM := Lib.hid hM
          clear R8 R64 hD1 hb1 hb2 hM hj h8 HS0 HSN hbel hsz lN hz
          go_wp2_with fail
          go_loopw [5, 7] (fun v5 v7 ws => ∃ (A : Option Addr) (cc m : Nat) (i : Nat), v5 = .slice A 8 cc ∧ v7 = .int .i64 i ∧ i = 64 * m ∧ m ≤ M ∧ Us ws ws.heap.size A 8 (upto S m).list ∧ Kept w2 ws) (fun _ v _ => 300000 - (intOf v).toNat)
          case atStart => exact ⟨A5, c5, 0, 0, rfl, rfl, rfl, by omega, hD2, Kept.refl _⟩
          case round =>
            obtain ⟨A7, c7, m, i, rfl, rfl, hi, hm, hU, hK⟩ := hrel
            by_cases hlt : m < M
            · obtain ⟨i4, hi4⟩ : ∃ i4, i4 = i + 64 := ⟨_, rfl⟩
              have e1 : (i : Int) + 64 = (i4 : Int) := by omega
              have hex : (str S).extract i i4 = str (blk S m) := by rw [hi4, hi]; exact str_cut S (64 * m) 64
              have lb : (blk S m).length = 64 := by
                have := HMM.out
                unfold blk
                simp
                omega
              have BL := fun w p1 p2 => block_any A7 c7 (upto S m) (blk S m) A6 c6 w p1 p2 lb (upto_ok S m)
              have i1 : i ≤ i4 := by omega
              have i2 : i4 ≤ S.length := by have := HMM.out; omega
              have i3 : i < S.length := by omega
              have HU : Hid (after (upto S m) (blk S m) = upto S (m + 1)) := rfl
              have HI := Lib.hid (And.intro hi hi4)
              rw [HU.out] at BL
              generalize blk S m = T at *
              clear hi hi4 lb HU
              go_wp2_with fail
              refine (BL wr hU ((hR2.below hK).more hK.size)).mono ?_
              rintro e w3 ⟨A8, c8, rfl, hc8, hU3, hb3⟩
              have K3 : Kept w2 w3 := hK.step hb3
              clear hb3 BL
              go_wp2_with fail
              go_roundw
              case rel =>
                have := HI.out
                exact ⟨A8, c8, m + 1, i4, rfl, by go_num, by omega, by omega, hU3, K3⟩
              case measure =>
                simp [intOf]
                omega
            · have hmM : m = M := by omega
              subst hmM
              have i0 : i = S.length := by have := HMM.out; omega
              have K2 := hK
              have wk := upto_ok S m
              have belE : Below w.heap.size w wr := bel2.trans (hK.mono bel2.size)
              clear hK hR2 hD2 bel2 hlt hm hi
              obtain ⟨X, hX⟩ : ∃ X : E8, X = upto S m := ⟨_, rfl⟩
              rw [← hX] at hU HD wk
              clear hX
              generalize wr = wG at *
              obtain ⟨gd, ofd, rfl, hgd, _⟩ := hU.at_ (k := 0) (by omega)
              go_wp2_with fail
              clear i0 hss
              go_loopw [8, 9] (fun v8 v9 ws => ∃ (A : Option Addr) (cc k N : Nat), v8 = .slice A N cc ∧ v9 = .int .i64 k ∧ N = 4 * k ∧ k ≤ 8 ∧ Own ws wG.heap.size (.slice A N cc) N ((dig X.list).take (4 * k)) ∧ Kept wG ws) (fun _ v _ => 8 - (intOf v).toNat)
              case atStart => exact ⟨_, 0, 0, 0, rfl, rfl, rfl, by omega, own_empty wG wG.heap.size (Nat.le_refl _), (Below.refl _ _).alloc (Nat.le_refl _) _⟩
              case round =>
                obtain ⟨A9, c9, k, N, rfl, rfl, hN, hk, hown, hKj⟩ := hrel
                have hszj := hKj.size
                by_cases hlt : k < 8
                · have cx := hU.get rfl (k := k) hlt
                  have lx := list_getD_lt wk k
                  have HM := Lib.hid (dig_more X.list k hlt)
                  rw [vw] at cx
                  generalize X.list.getD k 0 = x at *
                  have HN4 := Lib.hid hN
                  have lN4 : N ≤ 32 := by omega
                  generalize (dig X.list).take (4 * k) = L at *
                  clear hN
                  go_wp2_with fail
                  have hS0 : Kept wG wr.drew := hKj.drew
                  refine wp_region_held_drew (S := fun W => Kept wG W) (by kernel_rfl) hS0 (fun hS => ?_)
                  refine wpAnyH_take (i := 0) (oi := ⟨some 56, _, _, _, _, _⟩) (v := ?vq0) rfl (by kernel_rfl) (by kernel_rfl) (by kernel_rfl) (fun _ _ _ h => h) (Or.inl ⟨by rfl, ?yq0⟩) hS ?rq0
                  case yq0 => intro W hW; go_simp; first | done | with_reducible rfl
                  simp only [Act.put, List.setIfInBounds_toArray, List.set_cons_zero, List.set_cons_succ]
                  refine wpAnyH_take (i := 1) (oi := ⟨some 57, _, _, _, _, _⟩) (v := ?vq1) rfl (by kernel_rfl) (by kernel_rfl) (by kernel_rfl) (fun _ _ _ h => h) (Or.inl ⟨by rfl, ?yq1⟩) hS ?rq1
                  case yq1 => intro W hW; go_simp; first | done | with_reducible rfl
                  simp only [Act.put, List.setIfInBounds_toArray, List.set_cons_zero, List.set_cons_succ]
                  refine wpAnyH_take (i := 2) (oi := ⟨some 58, _, _, _, _, _⟩) (v := ?vq2) rfl (by kernel_rfl) (by kernel_rfl) (by kernel_rfl) (fun _ _ _ h => h) (Or.inl ⟨by rfl, ?yq2⟩) hS ?rq2
                  case yq2 => intro W hW; go_simp; first | done | with_reducible rfl
                  simp only [Act.put, List.setIfInBounds_toArray, List.set_cons_zero, List.set_cons_succ]
                  refine wpAnyH_take (i := 3) (oi := ⟨some 59, _, _, _, _, _⟩) (v := ?vq3) rfl (by kernel_rfl) (by kernel_rfl) (by kernel_rfl) (fun _ _ _ h => h) (Or.inl ⟨by rfl, ?yq3⟩) hS ?rq3
                  case yq3 => intro W hW; go_simp; first | done | with_reducible rfl
                  simp only [Act.put, List.setIfInBounds_toArray, List.set_cons_zero, List.set_cons_succ]
                  refine wpAnyH_take (i := 4) (oi := ⟨some 60, _, _, _, _, _⟩) (v := ?vq4) rfl (by kernel_rfl) (by kernel_rfl) (by kernel_rfl) (fun _ _ _ h => h) (Or.inl ⟨by rfl, ?yq4⟩) hS ?rq4
                  case yq4 => intro W hW; have p1 := (hW.cell (p := ⟨gd, ofd + k, none⟩) hgd).trans cx; go_simp; first | done | with_reducible rfl
                  simp only [Act.put, List.setIfInBounds_toArray, List.set_cons_zero, List.set_cons_succ]
                  refine wpAnyH_take (i := 5) (oi := ⟨some 61, _, _, _, _, _⟩) (v := ?vq5) rfl (by kernel_rfl) (by kernel_rfl) (by kernel_rfl) (fun _ _ _ h => h) (Or.inl ⟨by rfl, ?yq5⟩) hS ?rq5
                  case yq5 => intro W hW; go_simp; first | done | with_reducible rfl
                  simp only [Act.put, List.setIfInBounds_toArray, List.set_cons_zero, List.set_cons_succ]
                  refine wpAnyH_take (i := 6) (oi := ⟨some 62, _, _, _, _, _⟩) (v := ?vq6) rfl (by kernel_rfl) (by kernel_rfl) (by kernel_rfl) (fun _ _ _ h => h) (Or.inl ⟨by rfl, ?yq6⟩) hS ?rq6
                  case yq6 => intro W hW; go_simp; first | done | with_reducible rfl
                  simp only [Act.put, List.setIfInBounds_toArray, List.set_cons_zero, List.set_cons_succ]
                  refine wpAnyH_take (i := 7) (oi := ⟨some 63, _, _, _, _, _⟩) (v := ?vq7) rfl (by kernel_rfl) (by kernel_rfl) (by kernel_rfl) (fun _ _ _ h => h) (Or.inl ⟨by rfl, ?yq7⟩) hS ?rq7
                  case yq7 => intro W hW; go_simp; first | done | with_reducible rfl
                  simp only [Act.put, List.setIfInBounds_toArray, List.set_cons_zero, List.set_cons_succ]
                  refine wpAnyH_take (i := 8) (oi := ⟨some 64, _, _, _, _, _⟩) (v := ?vq8) rfl (by kernel_rfl) (by kernel_rfl) (by kernel_rfl) (fun _ _ _ h => h) (Or.inl ⟨by rfl, ?yq8⟩) hS ?rq8
                  case yq8 => intro W hW; go_simp; first | done | with_reducible rfl
                  simp only [Act.put, List.setIfInBounds_toArray, List.set_cons_zero, List.set_cons_succ]
                  refine wpAnyH_take (i := 9) (oi := ⟨some 65, _, _, _, _, _⟩) (v := ?vq9) rfl (by kernel_rfl) (by kernel_rfl) (by kernel_rfl) (fun _ _ _ h => h) (Or.inl ⟨by rfl, ?yq9⟩) hS ?rq9
                  case yq9 => intro W hW; go_simp; first | done | with_reducible rfl
                  simp only [Act.put, List.setIfInBounds_toArray, List.set_cons_zero, List.set_cons_succ]
                  refine wpAnyH_take (i := 10) (oi := ⟨some 66, _, _, _, _, _⟩) (v := ?vq10) rfl (by kernel_rfl) (by kernel_rfl) (by kernel_rfl) (fun _ _ _ h => h) (Or.inl ⟨by rfl, ?yq10⟩) hS ?rq10
                  case yq10 => intro W hW; have p1 := (hW.cell (p := ⟨gd, ofd + k, none⟩) hgd).trans cx; go_simp; first | done | with_reducible rfl
                  simp only [Act.put, List.setIfInBounds_toArray, List.set_cons_zero, List.set_cons_succ]
                  refine wpAnyH_take (i := 11) (oi := ⟨some 67, _, _, _, _, _⟩) (v := ?vq11) rfl (by kernel_rfl) (by kernel_rfl) (by kernel_rfl) (fun _ _ _ h => h) (Or.inl ⟨by rfl, ?yq11⟩) hS ?rq11
                  case yq11 => intro W hW; go_simp; first | done | with_reducible rfl
                  simp only [Act.put, List.setIfInBounds_toArray, List.set_cons_zero, List.set_cons_succ]
                  refine wpAnyH_take (i := 12) (oi := ⟨some 68, _, _, _, _, _⟩) (v := ?vq12) rfl (by kernel_rfl) (by kernel_rfl) (by kernel_rfl) (fun _ _ _ h => h) (Or.inl ⟨by rfl, ?yq12⟩) hS ?rq12
                  case yq12 => intro W hW; go_simp; first | done | with_reducible rfl
                  simp only [Act.put, List.setIfInBounds_toArray, List.set_cons_zero, List.set_cons_succ]
                  refine wpAnyH_take (i := 13) (oi := ⟨some 69, _, _, _, _, _⟩) (v := ?vq13) rfl (by kernel_rfl) (by kernel_rfl) (by kernel_rfl) (fun _ _ _ h => h) (Or.inl ⟨by rfl, ?yq13⟩) hS ?rq13
                  case yq13 => intro W hW; go_simp; first | done | with_reducible rfl
                  simp only [Act.put, List.setIfInBounds_toArray, List.set_cons_zero, List.set_cons_succ]
                  refine wpAnyH_take (i := 14) (oi := ⟨some 70, _, _, _, _, _⟩) (v := ?vq14) rfl (by kernel_rfl) (by kernel_rfl) (by kernel_rfl) (fun _ _ _ h => h) (Or.inl ⟨by rfl, ?yq14⟩) hS ?rq14
                  case yq14 => intro W hW; go_simp; first | done | with_reducible rfl
                  simp only [Act.put, List.setIfInBounds_toArray, List.set_cons_zero, List.set_cons_succ]
                  refine wpAnyH_take (i := 15) (oi := ⟨some 71, _, _, _, _, _⟩) (v := ?vq15) rfl (by kernel_rfl) (by kernel_rfl) (by kernel_rfl) (fun _ _ _ h => h) (Or.inl ⟨by rfl, ?yq15⟩) hS ?rq15
                  case yq15 => intro W hW; go_simp; first | done | with_reducible rfl
                  simp only [Act.put, List.setIfInBounds_toArray, List.set_cons_zero, List.set_cons_succ]
                  refine wpAnyH_take (i := 16) (oi := ⟨some 72, _, _, _, _, _⟩) (v := ?vq16) rfl (by kernel_rfl) (by kernel_rfl) (by kernel_rfl) (fun _ _ _ h => h) (Or.inl ⟨by rfl, ?yq16⟩) hS ?rq16
                  case yq16 => intro W hW; have p1 := (hW.cell (p := ⟨gd, ofd + k, none⟩) hgd).trans cx; go_simp; first | done | with_reducible rfl
                  simp only [Act.put, List.setIfInBounds_toArray, List.set_cons_zero, List.set_cons_succ]
                  refine wpAnyH_take (i := 17) (oi := ⟨some 73, _, _, _, _, _⟩) (v := ?vq17) rfl (by kernel_rfl) (by kernel_rfl) (by kernel_rfl) (fun _ _ _ h => h) (Or.inl ⟨by rfl, ?yq17⟩) hS ?rq17
                  case yq17 => intro W hW; go_simp; first | done | with_reducible rfl
                  simp only [Act.put, List.setIfInBounds_toArray, List.set_cons_zero, List.set_cons_succ]
                  refine wpAnyH_take (i := 18) (oi := ⟨some 74, _, _, _, _, _⟩) (v := ?vq18) rfl (by kernel_rfl) (by kernel_rfl) (by kernel_rfl) (fun _ _ _ h => h) (Or.inl ⟨by rfl, ?yq18⟩) hS ?rq18
                  case yq18 => intro W hW; go_simp; first | done | with_reducible rfl
                  simp only [Act.put, List.setIfInBounds_toArray, List.set_cons_zero, List.set_cons_succ]
                  refine wpAnyH_take (i := 19) (oi := ⟨some 75, _, _, _, _, _⟩) (v := ?vq19) rfl (by kernel_rfl) (by kernel_rfl) (by kernel_rfl) (fun _ _ _ h => h) (Or.inl ⟨by rfl, ?yq19⟩) hS ?rq19
                  case yq19 => intro W hW; go_simp; first | done | with_reducible rfl
                  simp only [Act.put, List.setIfInBounds_toArray, List.set_cons_zero, List.set_cons_succ]
                  refine wpAnyH_take (i := 20) (oi := ⟨some 76, _, _, _, _, _⟩) (v := ?vq20) rfl (by kernel_rfl) (by kernel_rfl) (by kernel_rfl) (fun _ _ _ h => h) (Or.inl ⟨by rfl, ?yq20⟩) hS ?rq20
                  case yq20 => intro W hW; go_simp; first | done | with_reducible rfl
                  simp only [Act.put, List.setIfInBounds_toArray, List.set_cons_zero, List.set_cons_succ]
                  refine wpAnyH_take (i := 21) (oi := ⟨some 77, _, _, _, _, _⟩) (v := ?vq21) rfl (by kernel_rfl) (by kernel_rfl) (by kernel_rfl) (fun _ _ _ h => h) (Or.inl ⟨by rfl, ?yq21⟩) hS ?rq21
                  case yq21 => intro W hW; go_simp; first | done | with_reducible rfl
                  simp only [Act.put, List.setIfInBounds_toArray, List.set_cons_zero, List.set_cons_succ]
                  refine wpAnyH_take (i := 22) (oi := ⟨some 78, _, _, _, _, _⟩) (v := ?vq22) rfl (by kernel_rfl) (by kernel_rfl) (by kernel_rfl) (fun _ _ _ h => h) (Or.inl ⟨by rfl, ?yq22⟩) hS ?rq22
                  case yq22 => intro W hW; have p1 := (hW.cell (p := ⟨gd, ofd + k, none⟩) hgd).trans cx; go_simp; first | done | with_reducible rfl
                  simp only [Act.put, List.setIfInBounds_toArray, List.set_cons_zero, List.set_cons_succ]
                  refine wpAnyH_take (i := 23) (oi := ⟨some 79, _, _, _, _, _⟩) (v := ?vq23) rfl (by kernel_rfl) (by kernel_rfl) (by kernel_rfl) (fun _ _ _ h => h) (Or.inl ⟨by rfl, ?yq23⟩) hS ?rq23
                  case yq23 => intro W hW; go_simp; first | done | with_reducible rfl
                  simp only [Act.put, List.setIfInBounds_toArray, List.set_cons_zero, List.set_cons_succ]
                  refine wpAnyH_ready (rs := [24]) (by kernel_rfl) (by simp) ?_
                  refine (AllReadyH.cons (o := ⟨some 80, _, _, _, _, _⟩) rfl (fun K hK_ => ?_) AllReadyH.nil)
                  go_simp
                  refine hK_.out _ _ (hS.alloc _) (fun hS3 => ?_)
                  clear hK_ K
                  refine wpAnyH_ready (rs := [25]) (by kernel_rfl) (by simp) ?_
                  refine (AllReadyH.cons (o := ⟨some 81, _, _, _, _, _⟩) rfl (fun K hK_ => ?_) AllReadyH.nil)
                  refine step_appS _ rfl (.tmp 56) (.tmp 80) rfl wG.heap.size _ N L rfl (hown.alloc _).drew (wr.heap.size + 1) _ 4 4 _ rfl (Bs.four wr _ _ _ _ (UInt8.ofNat (x / 2 ^ 24)) (UInt8.ofNat (x / 2 ^ 16)) (UInt8.ofNat (x / 2 ^ 8)) (UInt8.ofNat x) ?e1 ?e2 ?e3 ?e4).drew (by omega) (by simp; omega) (N + 4) ((dig X.list).take (4 * (k + 1))) rfl HM.out ?_
                  case e1 => exact byte24 x
                  case e2 => exact byte16 x
                  case e3 => exact byte8 x
                  case e4 => exact byte0 x
                  intro A7 c7 w7 hc7 hS7 hown7 hbel7
                  have K7 : Kept wG w7 := hS3.base hbel7
                  refine hK_.out _ _ K7 (fun _ => ?_)
                  clear hK_ K
                  simp only [Act.put, List.setIfInBounds_toArray, List.set_cons_zero, List.set_cons_succ]
                  refine wpAnyH_take (i := 26) (oi := ⟨some 8, _, _, _, _, _⟩) (v := ?vo26) rfl (by kernel_rfl) (by kernel_rfl) (by kernel_rfl) (fun _ _ _ h => h) (Or.inl ⟨by rfl, ?yo26⟩) K7 ?ro26
                  case yo26 => intro W hW; go_simp; first | done | with_reducible rfl
                  simp only [Act.put, List.setIfInBounds_toArray, List.set_cons_zero, List.set_cons_succ]
                  refine wpAnyH_done (by kernel_rfl) ?_ _
                  clear hS0 hS hS3 cx
                  go_wp2_with fail
                  go_roundw
                  case rel =>
                    have := HN4.out
                    exact ⟨A7, c7, k + 1, N + 4, rfl, by go_num, by omega, by omega, hown7, K7⟩
                  case measure => simp [intOf]; omega
                · have hk8 : k = 8 := by omega
                  subst hk8
                  have hN32 : N = 32 := by omega
                  subst hN32
                  have ht : (dig X.list).take (4 * 8) = dig X.list := List.take_of_length_le (by rw [dig_length]; omega)
                  rw [ht, ← HD.out] at hown
                  obtain ⟨A', c', he, hcc', hB⟩ := hown.form
                  injection he with he1 he2 he3
                  subst he1 he3
                  have hv := fun c' => run_str wr _ _ 32 c' _ hB
                  clear hown ht
                  go_wp2_with fail
                  go_ret
                  exact ⟨rfl, belE.trans (hKj.mono belE.size)⟩
end Go.Proofs.YtiigmpoopmnnhaaDoor
