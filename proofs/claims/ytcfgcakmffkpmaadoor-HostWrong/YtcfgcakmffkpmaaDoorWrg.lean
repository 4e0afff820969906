/-
  The walk of transeptlaw07.HostWrong: true, for every text and two numbers; nothing that was there turns. Condition: the library's tables.
-/
import Derived.Test.YtcfgcakmffkpmaaDoorShw
import Derived.Test.YtcfgcakmffkpmaaDoorWmt
namespace Go.Proofs.YtcfgcakmffkpmaaDoor
open Go.RowKit

theorem step_str {ops : Array Oper} {o : Oper} {a : Act} {K : Act → World → Prop} {Q : Exit → Act → World → Prop} {E : Prop} (w : World) (hgd : o.guard = none) (x : Operand)
    (ho : o.op = .convert 39 9 x) (B : Nat) (A : Option Addr) (n c : Nat) (l : List UInt8) (hx : a.eval x = .slice A n c) (hr : Bs w B A n l)
    (h : K (a.put o.dst (.string (str l))) w) : if Region.wanted o (yielded ops a.tmps) = true then Oper.wp Tryd.prog o a w K Q else E := by
  have hw : Region.wanted o (yielded ops a.tmps) = true := by simp [Region.wanted, hgd]
  rw [if_pos hw]
  have hrun := run_str w B A n c l hr
  unfold Oper.wp execOp
  simp only [ho, hx, hrun, Sem.run_bind, Sem.run_pure, Result.andThen_ok]
  exact h

set_option maxHeartbeats 8000000 in
set_option maxRecDepth 100000 in
theorem wrong_walk (S0 : List UInt8) (hS : S0.length ≤ 9223372036854775807) (n1 n2 : Int) (w : World) (ht : Tabs w) :
    Calls Tryd.prog 7 #[.string (str S0), .int .i64 n1, .int .i64 n2] w fun e w' => e = .returned (.bool true) ∧ Below w.heap.size w w' := by
  obtain ⟨j, hj, hj1, hj2⟩ : ∃ j : Nat, min (S0.length : Int) 100 = (j : Int) ∧ j ≤ S0.length ∧ j ≤ 100 := ⟨min S0.length 100, by omega, by omega, by omega⟩
  obtain ⟨l, hl⟩ : ∃ l, l = S0.take j := ⟨_, rfl⟩
  have hll : l.length = j := by rw [hl, List.length_take]; omega
  have hxl : (str S0).extract 0 j = str l := by rw [hl]; exact str_take S0 j
  have hs0 := str_size S0
  have HT := Lib.hid ht
  have HSh := Lib.hid (shown_any w ht)
  obtain ⟨a, ha⟩ : ∃ a, a = (prs l).1 := ⟨_, rfl⟩
  obtain ⟨er, her⟩ : ∃ er, er = (prs l).2 := ⟨_, rfl⟩
  have hpr : prs l = (a, er) := by rw [ha, her]
  have HP : Hid (∀ w', Kept w w' → Calls Tryd.prog 10 #[.string (str l)] w' fun e w2 => e = .returned (.tuple #[.string (str a), .int .i64 (if er then 7 else 0)]) ∧ Below w'.heap.size w' w2) := fun w' hk => parse_is l a er hpr w' (by omega) (HT.out.kp hk)
  have hsa := str_size a
  have hal : a.length ≤ 100000 := prs_len l a er hpr (by omega)
  clear hl ha her ht
  cases er with
  | true =>
    have HP2 : Hid (∀ w', Kept w w' → Calls Tryd.prog 10 #[.string (str l)] w' fun e w2 => e = .returned (.tuple #[.string (str a), .int .i64 7]) ∧ Below w'.heap.size w' w2) := HP.out
    clear HP hpr
    go_enter Tryd.func7, Tryd.ntmps7
    go_wp2_with (first
      | (go_at_call 9; with_reducible refine HSh.out.mono ?_; rintro e w1 ⟨rfl, hk1⟩)
      | (go_at_call 10; with_reducible refine (HP2.out _ hk1).mono ?_; rintro e w2 ⟨rfl, hb2⟩; have hk2 := hk1.step hb2; clear hb2))
    go_ret
    exact ⟨rfl, hk2⟩
  | false =>
    have HP2 : Hid (∀ w', Kept w w' → Calls Tryd.prog 10 #[.string (str l)] w' fun e w2 => e = .returned (.tuple #[.string (str a), .int .i64 0]) ∧ Below w'.heap.size w' w2) := HP.out
    clear HP
    obtain ⟨A, hA⟩ : ∃ A, A = a.length := ⟨_, rfl⟩
    have h0 : ∀ h, ((str a)[0]'h).toNat = (a.getD 0 0).toNat := fun h => str_at a 0 (by rw [← str_size]; exact h) h
    rw [← hA] at hsa hal
    have HA := Lib.hid hA
    clear hA
    by_cases hA0 : A = 0
    · subst hA0
      clear hpr h0 HA
      go_enter Tryd.func7, Tryd.ntmps7
      go_wp2_with (first
        | (go_at_call 9; with_reducible refine HSh.out.mono ?_; rintro e w1 ⟨rfl, hk1⟩)
        | (go_at_call 10; with_reducible refine (HP2.out _ hk1).mono ?_; rintro e w2 ⟨rfl, hb2⟩; have hk2 := hk1.step hb2; clear hb2))
      go_ret
      exact ⟨rfl, hk2⟩
    · have hA0b : ((A : Int) == 0) = false := by simp; omega
      have hA0i : (0 : Int) < (A : Int) := by omega
      by_cases h91 : a.getD 0 0 = 91
      · rw [h91] at h0
        have h0' : ∀ h, ((str a)[0]'h).toNat = 91 := h0
        clear hpr h0 h91
        go_enter Tryd.func7, Tryd.ntmps7
        go_wp2_with (first
          | (go_at_call 9; with_reducible refine HSh.out.mono ?_; rintro e w1 ⟨rfl, hk1⟩)
          | (go_at_call 10; with_reducible refine (HP2.out _ hk1).mono ?_; rintro e w2 ⟨rfl, hb2⟩; have hk2 := hk1.step hb2; clear hb2))
        go_ret
        exact ⟨rfl, hk2⟩
      · have hok := prs_ok l a hpr (by
          intro e
          apply h91
          cases a with
          | nil => simp at e
          | cons x r => simpa using e)
        obtain ⟨m0, hm0⟩ : ∃ m, m = (a.getD 0 0).toNat := ⟨_, rfl⟩
        rw [← hm0] at h0
        have h91b : ((m0 : Int) == 91) = false := by
          have : m0 ≠ 91 := fun e => h91 (UInt8.toNat_inj.1 (by rw [← hm0, e]; rfl))
          simp
          omega
        obtain ⟨q2, hq2⟩ : ∃ q : Nat, bits .and .i64 n2 65535 = (q : Int) := ⟨(n2 % 65536).toNat, by rw [i64_and65535]; omega⟩
        obtain ⟨q1, hq1⟩ : ∃ q : Nat, bits .and .i64 n1 65535 = (q : Int) ∧ q < 65536 := ⟨(n1 % 65536).toNat, by rw [i64_and65535]; omega, by omega⟩
        obtain ⟨i, hi⟩ : ∃ i, i = q2 % 18 := ⟨_, rfl⟩
        have hii : (q2 : Int) % 18 = (i : Int) := by omega
        have hi18 : i < 18 := by omega
        obtain ⟨k, hk⟩ : ∃ k, k = q1 % (A + 1) := ⟨_, rfl⟩
        obtain ⟨A1, hA1⟩ : ∃ A1, A1 = A + 1 := ⟨_, rfl⟩
        have hA1i : (A : Int) + 1 = (A1 : Int) := by omega
        have hki : (q1 : Int) % (A1 : Int) = (k : Int) := by rw [hk, hA1]; simp
        have hA1n : ¬ (A1 : Int) = 0 := by omega
        have hkA : k ≤ A := by have := Nat.mod_lt q1 (show A + 1 > 0 by omega); omega
        obtain ⟨c, hc⟩ : ∃ c, c = bads.getD i 0 := ⟨_, rfl⟩
        obtain ⟨m, hm⟩ : ∃ m, m = c.toNat := ⟨_, rfl⟩
        have hno := bads_no i hi18
        rw [← hc] at hno
        have hm9 : m < 256 := by rw [hm]; exact c.toNat_lt
        have hidx : Hid (m = (bads.getD i 0).toNat) := by show _ = _; rw [hm, hc]
        have hcut1 := str_take a k
        have hcut2 := str_drop a k A HA.out hkA
        obtain ⟨X, hX⟩ : ∃ X, X = a.take k := ⟨_, rfl⟩
        obtain ⟨Y, hY⟩ : ∃ Y, Y = a.drop k := ⟨_, rfl⟩
        rw [← hX] at hcut1
        rw [← hY] at hcut2
        have hXl : X.length ≤ 100000 := by rw [hX, List.length_take]; omega
        have hYl : Y.length ≤ 100000 := by rw [hY, List.length_drop, ← HA.out]; omega
        obtain ⟨u, hu⟩ : ∃ u, u = m / 16 := ⟨_, rfl⟩
        obtain ⟨v, hv⟩ : ∃ v, v = m % 16 := ⟨_, rfl⟩
        have hui : (m : Int) / 16 = (u : Int) := by omega
        have hvi : (m : Int) % 16 = (v : Int) := by omega
        have hvt : ((m : Int)).tmod 16 = (v : Int) := by rw [hv]; rfl
        have hut : ((m : Int)).tdiv 16 = (u : Int) := by rw [hu]; rfl
        have hwu : IntKind.u8.wrap (u : Int) = (u : Int) := by rw [IntKind.wrap_u8]; omega
        have hwu2 : IntKind.i64.wrap (u : Int) = (u : Int) := by rw [IntKind.wrap_i64]; omega
        have hwv : IntKind.u8.wrap (v : Int) = (v : Int) := by rw [IntKind.wrap_u8]; omega
        have hwv2 : IntKind.i64.wrap (v : Int) = (v : Int) := by rw [IntKind.wrap_i64]; omega
        have HBu : Hid (∀ w', Calls Tryd.prog 13 #[.int .i64 (u : Int), .int .i64 16] w' fun e w2 => e = .returned (.string (str [hx u])) ∧ Below w'.heap.size w' w2) := fun w' => by
          have h := based_any u 16 (by omega) (by omega) (by omega) w'
          rw [bsd_lt (show u < 16 by omega)] at h
          exact h
        have HBv : Hid (∀ w', Calls Tryd.prog 13 #[.int .i64 (v : Int), .int .i64 16] w' fun e w2 => e = .returned (.string (str [hx v])) ∧ Below w'.heap.size w' w2) := fun w' => by
          have h := based_any v 16 (by omega) (by omega) (by omega) w'
          rw [bsd_lt (show v < 16 by omega)] at h
          exact h
        obtain ⟨Z1, z1⟩ : ∃ Z, Z = X ++ [c] := ⟨_, rfl⟩
        obtain ⟨Z2, z2⟩ : ∃ Z, Z = Z1 ++ Y := ⟨_, rfl⟩
        obtain ⟨V1, v1⟩ : ∃ Z, Z = X ++ [37] := ⟨_, rfl⟩
        obtain ⟨V2, v2⟩ : ∃ Z, Z = V1 ++ [hx u] := ⟨_, rfl⟩
        obtain ⟨V3, v3⟩ : ∃ Z, Z = V2 ++ [hx v] := ⟨_, rfl⟩
        obtain ⟨V4, v4⟩ : ∃ Z, Z = V3 ++ Y := ⟨_, rfl⟩
        have a1 : str X ++ str [c] = str Z1 := by rw [z1]; exact str_add _ _
        have a2 : str Z1 ++ str Y = str Z2 := by rw [z2]; exact str_add _ _
        have b1 : str X ++ (⟨#[37]⟩ : ByteArray) = str V1 := by rw [v1]; exact str_add X [37]
        have b2 : str V1 ++ str [hx u] = str V2 := by rw [v2]; exact str_add _ _
        have b3 : str V2 ++ str [hx v] = str V3 := by rw [v3]; exact str_add _ _
        have b4 : str V3 ++ str Y = str V4 := by rw [v4]; exact str_add _ _
        have sX : (str X).size ≤ 100000 := by rw [str_size]; exact hXl
        have sY : (str Y).size ≤ 100000 := by rw [str_size]; exact hYl
        have sc : (str [c]).size = 1 := str_size _
        have su : (str [hx u]).size = 1 := str_size _
        have sv : (str [hx v]).size = 1 := str_size _
        have sZ1 : (str Z1).size ≤ 100001 := by rw [str_size, z1]; simp; omega
        have sV1 : (str V1).size ≤ 100001 := by rw [str_size, v1]; simp; omega
        have sV2 : (str V2).size ≤ 100002 := by rw [str_size, v2, v1]; simp; omega
        have sV3 : (str V3).size ≤ 100003 := by rw [str_size, v3, v2, v1]; simp; omega
        have g1 : ¬ 9223372036854775807 < (str X).size + (str [c]).size := by omega
        have g2 : ¬ 9223372036854775807 < (str Z1).size + (str Y).size := by omega
        have g3 : ¬ 9223372036854775807 < (str X).size + (⟨#[37]⟩ : ByteArray).size := by have : (⟨#[37]⟩ : ByteArray).size = 1 := rfl; omega
        have g4 : ¬ 9223372036854775807 < (str V1).size + (str [hx u]).size := by omega
        have g5 : ¬ 9223372036854775807 < (str V2).size + (str [hx v]).size := by omega
        have g6 : ¬ 9223372036854775807 < (str V3).size + (str Y).size := by omega
        have g1' : ¬ 9223372036854775807 < (str X).size + 1 := by omega
        have g4' : ¬ 9223372036854775807 < (str V1).size + 1 := by omega
        have g5' : ¬ 9223372036854775807 < (str V2).size + 1 := by omega
        have hZl : Z2.length ≤ 1000000 := by rw [z2, z1]; simp; omega
        have hVl : V4.length ≤ 1000000 := by rw [v4, v3, v2, v1]; simp; omega
        have hcod : prs V4 = ([], true) := by
          rw [v4, v3, v2, v1, hX, hY, hu, hv, hm]
          have := prs_coded a k c hok hno.1
          simpa using this
        have HV4 : Hid (∀ w', Kept w w' → Calls Tryd.prog 10 #[.string (str V4)] w' fun e w2 => e = .returned (.tuple #[.string (str []), .int .i64 7]) ∧ Below w'.heap.size w' w2) := fun w' hk => parse_is V4 [] true hcod w' (by omega) (HT.out.kp hk)
        have hpl : c ≠ 37 → prs Z2 = ([], true) := fun h37 => by
          rw [z2, z1, hX, hY]
          exact prs_plain a k c hok hno.1 hno.2 h37
        obtain ⟨p1, hp1⟩ : ∃ p, p = (prs Z2).1 := ⟨_, rfl⟩
        obtain ⟨p2, hp2⟩ : ∃ p, p = (prs Z2).2 := ⟨_, rfl⟩
        obtain ⟨ev, hev⟩ : ∃ e : Int, e = if p2 then 7 else 0 := ⟨_, rfl⟩
        have HZ2 : Hid (∀ w', Kept w w' → Calls Tryd.prog 10 #[.string (str Z2)] w' fun e w2 => e = .returned (.tuple #[.string (str p1), .int .i64 ev]) ∧ Below w'.heap.size w' w2) := fun w' hk => by
          rw [hev]
          exact parse_is Z2 p1 p2 (by rw [hp1, hp2]) w' (by omega) (HT.out.kp hk)
        have hfin : Hid ((m = 37 ∧ ((m : Int) == 37) = true) ∨ (((m : Int) == 37) = false ∧ ev = 7)) := by
          by_cases h37 : c = 37
          · left
            have : m = 37 := by rw [hm, h37]; rfl
            exact ⟨this, by simp [this]⟩
          · right
            refine ⟨?_, ?_⟩
            · have : m ≠ 37 := fun e => h37 (UInt8.toNat_inj.1 (by rw [← hm, e]; rfl))
              simp
              omega
            · rw [hev, hp2, hpl h37]
              rfl
        have hmc : Hid (m = c.toNat) := hm
        have hix : ∀ h, ((ByteArray.mk (List.toArray [35, 37, 47, 58, 60, 62, 63, 64, 92, 93, 94, 124, 32, 0, 31, 127, 128, 255]))[i]'h).toNat = m := fun h => by rw [hidx.out]; exact str_at bads i hi18 h
        have hb16 : ((16 : Nat) : Int) = 16 := rfl
        have hi18' : i < bads.length := hi18
        have hlb : bads.length = 18 := rfl
        clear hA1 hpr h91 hok hm0 hi hk hc hm hno hX hY hu hv z1 z2 v1 v2 v3 v4 hcod hpl hp1 hp2 hev hA0 hb16 hXl hYl
        go_enter Tryd.func7, Tryd.ntmps7
        go_wp2_with (first
          | (go_at_call 9; with_reducible refine HSh.out.mono ?_; rintro e w1 ⟨rfl, hk1⟩)
          | (go_at_call 10; with_reducible refine (HP2.out _ hk1).mono ?_; rintro e w2 ⟨rfl, hb2⟩; have hk2 := hk1.step hb2; clear hb2)
          | ((with_reducible show wpList _ _ _ (⟨some 49, .index _ _ _, _, _, _, _⟩ :: _) _ _); refine wp_idxS _ rfl _ _ rfl bads rfl i _ rfl hi18' m hidx.out ?_; simp only [Act.put, List.setIfInBounds_toArray, List.set_cons_zero, List.set_cons_succ]))
        rw [hki]
        refine wp_region_held_drew (S := fun W => Kept w W) (by kernel_rfl) hk2.drew (fun hS => ?_)
        refine wpAnyH_take (i := 0) (oi := ⟨some 56, _, _, _, _, _⟩) (v := ?va0) rfl (by kernel_rfl) (by kernel_rfl) (by kernel_rfl) (fun _ _ _ h => h) (Or.inl ⟨by rfl, ?ya0⟩) hS ?ra0
        case ya0 => intro W hW; go_simp; first | done | with_reducible rfl
        simp only [Act.put, List.setIfInBounds_toArray, List.set_cons_zero, List.set_cons_succ]
        refine wpAnyH_take (i := 1) (oi := ⟨some 57, _, _, _, _, _⟩) (v := ?va1) rfl (by kernel_rfl) (by kernel_rfl) (by kernel_rfl) (fun _ _ _ h => h) (Or.inl ⟨by rfl, ?ya1⟩) hS ?ra1
        case ya1 => intro W hW; go_simp; first | done | with_reducible rfl
        simp only [Act.put, List.setIfInBounds_toArray, List.set_cons_zero, List.set_cons_succ]
        refine wpAnyH_take (i := 2) (oi := ⟨some 58, _, _, _, _, _⟩) (v := ?va2) rfl (by kernel_rfl) (by kernel_rfl) (by kernel_rfl) (fun _ _ _ h => h) (Or.inl ⟨by rfl, ?ya2⟩) hS ?ra2
        case ya2 => intro W hW; go_simp; first | done | with_reducible rfl
        simp only [Act.put, List.setIfInBounds_toArray, List.set_cons_zero, List.set_cons_succ]
        refine wpAnyH_take (i := 3) (oi := ⟨some 59, _, _, _, _, _⟩) (v := ?va3) rfl (by kernel_rfl) (by kernel_rfl) (by kernel_rfl) (fun _ _ _ h => h) (Or.inl ⟨by rfl, ?ya3⟩) hS ?ra3
        case ya3 => intro W hW; go_simp; first | done | with_reducible rfl
        simp only [Act.put, List.setIfInBounds_toArray, List.set_cons_zero, List.set_cons_succ]
        refine wpAnyH_take (i := 7) (oi := ⟨some 63, _, _, _, _, _⟩) (v := ?va7) rfl (by kernel_rfl) (by kernel_rfl) (by kernel_rfl) (fun _ _ _ h => h) (Or.inl ⟨by rfl, ?ya7⟩) hS ?ra7
        case ya7 => intro W hW; go_simp; first | done | with_reducible rfl
        simp only [Act.put, List.setIfInBounds_toArray, List.set_cons_zero, List.set_cons_succ]
        refine wpAnyH_take (i := 8) (oi := ⟨some 64, _, _, _, _, _⟩) (v := ?va8) rfl (by kernel_rfl) (by kernel_rfl) (by kernel_rfl) (fun _ _ _ h => h) (Or.inl ⟨by rfl, ?ya8⟩) hS ?ra8
        case ya8 => intro W hW; go_simp; first | done | with_reducible rfl
        simp only [Act.put, List.setIfInBounds_toArray, List.set_cons_zero, List.set_cons_succ]
        refine wpAnyH_take (i := 9) (oi := ⟨some 65, _, _, _, _, _⟩) (v := ?va9) rfl (by kernel_rfl) (by kernel_rfl) (by kernel_rfl) (fun _ _ _ h => h) (Or.inl ⟨by rfl, ?ya9⟩) hS ?ra9
        case ya9 => intro W hW; go_simp; first | done | with_reducible rfl
        simp only [Act.put, List.setIfInBounds_toArray, List.set_cons_zero, List.set_cons_succ]
        refine wpAnyH_ready (rs := [4]) (by kernel_rfl) (by simp) ?_
        refine (AllReadyH.cons (o := ⟨some 60, _, _, _, _, _⟩) rfl (fun K hK_ => ?_) AllReadyH.nil)
        go_simp
        refine hK_.out _ _ (hS.alloc _) (fun hS3 => ?_)
        clear hK_ K
        try simp only [Act.put, List.setIfInBounds_toArray, List.set_cons_zero, List.set_cons_succ]
        refine wpAnyH_ready (rs := [5]) (by kernel_rfl) (by simp) ?_
        refine (AllReadyH.cons (o := ⟨some 61, _, _, _, _, _⟩) rfl (fun K hK_ => ?_) AllReadyH.nil)
        refine step_str _ rfl (.tmp 60) rfl _ _ 1 1 [c] rfl (bs_of w2 m c hmc.out).drew ?_
        refine hK_.out _ _ hS3 (fun _ => ?_)
        clear hK_ K
        try simp only [Act.put, List.setIfInBounds_toArray, List.set_cons_zero, List.set_cons_succ]
        refine wpAnyH_take (i := 6) (oi := ⟨some 62, _, _, _, _, _⟩) (v := ?vb6) rfl (by kernel_rfl) (by kernel_rfl) (by kernel_rfl) (fun _ _ _ h => h) (Or.inl ⟨by rfl, ?yb6⟩) hS3 ?rb6
        case yb6 => intro W hW; go_simp; first | done | with_reducible rfl
        simp only [Act.put, List.setIfInBounds_toArray, List.set_cons_zero, List.set_cons_succ]
        refine wpAnyH_take (i := 10) (oi := ⟨some 66, _, _, _, _, _⟩) (v := ?vb10) rfl (by kernel_rfl) (by kernel_rfl) (by kernel_rfl) (fun _ _ _ h => h) (Or.inl ⟨by rfl, ?yb10⟩) hS3 ?rb10
        case yb10 => intro W hW; go_simp; first | done | with_reducible rfl
        simp only [Act.put, List.setIfInBounds_toArray, List.set_cons_zero, List.set_cons_succ]
        refine wpAnyH_take (i := 11) (oi := ⟨some 13, _, _, _, _, _⟩) (v := ?vb11) rfl (by kernel_rfl) (by kernel_rfl) (by kernel_rfl) (fun _ _ _ h => h) (Or.inl ⟨by rfl, ?yb11⟩) hS3 ?rb11
        case yb11 => intro W hW; go_simp; first | done | with_reducible rfl
        simp only [Act.put, List.setIfInBounds_toArray, List.set_cons_zero, List.set_cons_succ]
        refine wpAnyH_done (by kernel_rfl) ?_ _
        go_wp2_with fail
        refine wp_region_held_drew (S := fun W => Kept w W) (by kernel_rfl) hS3.drew (fun hS4 => ?_)
        refine wpAnyH_take (i := 0) (oi := ⟨some 67, _, _, _, _, _⟩) (v := ?vc0) rfl (by kernel_rfl) (by kernel_rfl) (by kernel_rfl) (fun _ _ _ h => h) (Or.inl ⟨by rfl, ?yc0⟩) hS4 ?rc0
        case yc0 => intro W hW; go_simp; first | done | with_reducible rfl
        simp only [Act.put, List.setIfInBounds_toArray, List.set_cons_zero, List.set_cons_succ]
        refine wpAnyH_take (i := 1) (oi := ⟨some 68, _, _, _, _, _⟩) (v := ?vc1) rfl (by kernel_rfl) (by kernel_rfl) (by kernel_rfl) (fun _ _ _ h => h) (Or.inl ⟨by rfl, ?yc1⟩) hS4 ?rc1
        case yc1 => intro W hW; go_simp; first | done | with_reducible rfl
        simp only [Act.put, List.setIfInBounds_toArray, List.set_cons_zero, List.set_cons_succ]
        refine wpAnyH_take (i := 2) (oi := ⟨some 69, _, _, _, _, _⟩) (v := ?vc2) rfl (by kernel_rfl) (by kernel_rfl) (by kernel_rfl) (fun _ _ _ h => h) (Or.inl ⟨by rfl, ?yc2⟩) hS4 ?rc2
        case yc2 => intro W hW; go_simp; first | done | with_reducible rfl
        simp only [Act.put, List.setIfInBounds_toArray, List.set_cons_zero, List.set_cons_succ]
        refine wpAnyH_take (i := 3) (oi := ⟨some 70, _, _, _, _, _⟩) (v := ?vc3) rfl (by kernel_rfl) (by kernel_rfl) (by kernel_rfl) (fun _ _ _ h => h) (Or.inl ⟨by rfl, ?yc3⟩) hS4 ?rc3
        case yc3 => intro W hW; go_simp; first | done | with_reducible rfl
        simp only [Act.put, List.setIfInBounds_toArray, List.set_cons_zero, List.set_cons_succ]
        refine wpAnyH_take (i := 4) (oi := ⟨some 71, _, _, _, _, _⟩) (v := ?vc4) rfl (by kernel_rfl) (by kernel_rfl) (by kernel_rfl) (fun _ _ _ h => h) (Or.inl ⟨by rfl, ?yc4⟩) hS4 ?rc4
        case yc4 => intro W hW; go_simp; first | done | with_reducible rfl
        simp only [Act.put, List.setIfInBounds_toArray, List.set_cons_zero, List.set_cons_succ]
        refine wpAnyH_take (i := 5) (oi := ⟨some 72, _, _, _, _, _⟩) (v := ?vc5) rfl (by kernel_rfl) (by kernel_rfl) (by kernel_rfl) (fun _ _ _ h => h) (Or.inl ⟨by rfl, ?yc5⟩) hS4 ?rc5
        case yc5 => intro W hW; go_simp; first | done | with_reducible rfl
        simp only [Act.put, List.setIfInBounds_toArray, List.set_cons_zero, List.set_cons_succ]
        refine wpAnyH_take (i := 6) (oi := ⟨some 73, _, _, _, _, _⟩) (v := ?vc6) rfl (by kernel_rfl) (by kernel_rfl) (by kernel_rfl) (fun _ _ _ h => h) (Or.inl ⟨by rfl, ?yc6⟩) hS4 ?rc6
        case yc6 => intro W hW; go_simp; first | done | with_reducible rfl
        simp only [Act.put, List.setIfInBounds_toArray, List.set_cons_zero, List.set_cons_succ]
        refine wpAnyH_take (i := 9) (oi := ⟨some 76, _, _, _, _, _⟩) (v := ?vc9) rfl (by kernel_rfl) (by kernel_rfl) (by kernel_rfl) (fun _ _ _ h => h) (Or.inl ⟨by rfl, ?yc9⟩) hS4 ?rc9
        case yc9 => intro W hW; go_simp; first | done | with_reducible rfl
        simp only [Act.put, List.setIfInBounds_toArray, List.set_cons_zero, List.set_cons_succ]
        refine wpAnyH_take (i := 10) (oi := ⟨some 77, _, _, _, _, _⟩) (v := ?vc10) rfl (by kernel_rfl) (by kernel_rfl) (by kernel_rfl) (fun _ _ _ h => h) (Or.inl ⟨by rfl, ?yc10⟩) hS4 ?rc10
        case yc10 => intro W hW; go_simp; first | done | with_reducible rfl
        simp only [Act.put, List.setIfInBounds_toArray, List.set_cons_zero, List.set_cons_succ]
        refine wpAnyH_take (i := 11) (oi := ⟨some 78, _, _, _, _, _⟩) (v := ?vc11) rfl (by kernel_rfl) (by kernel_rfl) (by kernel_rfl) (fun _ _ _ h => h) (Or.inl ⟨by rfl, ?yc11⟩) hS4 ?rc11
        case yc11 => intro W hW; go_simp; first | done | with_reducible rfl
        simp only [Act.put, List.setIfInBounds_toArray, List.set_cons_zero, List.set_cons_succ]
        refine wpAnyH_take (i := 14) (oi := ⟨some 81, _, _, _, _, _⟩) (v := ?vc14) rfl (by kernel_rfl) (by kernel_rfl) (by kernel_rfl) (fun _ _ _ h => h) (Or.inl ⟨by rfl, ?yc14⟩) hS4 ?rc14
        case yc14 => intro W hW; go_simp; first | done | with_reducible rfl
        simp only [Act.put, List.setIfInBounds_toArray, List.set_cons_zero, List.set_cons_succ]
        refine wpAnyH_take (i := 15) (oi := ⟨some 82, _, _, _, _, _⟩) (v := ?vc15) rfl (by kernel_rfl) (by kernel_rfl) (by kernel_rfl) (fun _ _ _ h => h) (Or.inl ⟨by rfl, ?yc15⟩) hS4 ?rc15
        case yc15 => intro W hW; go_simp; first | done | with_reducible rfl
        simp only [Act.put, List.setIfInBounds_toArray, List.set_cons_zero, List.set_cons_succ]
        refine wpAnyH_take (i := 16) (oi := ⟨some 83, _, _, _, _, _⟩) (v := ?vc16) rfl (by kernel_rfl) (by kernel_rfl) (by kernel_rfl) (fun _ _ _ h => h) (Or.inl ⟨by rfl, ?yc16⟩) hS4 ?rc16
        case yc16 => intro W hW; go_simp; first | done | with_reducible rfl
        simp only [Act.put, List.setIfInBounds_toArray, List.set_cons_zero, List.set_cons_succ]
        refine wpAnyH_ready (rs := [7]) (by kernel_rfl) (by simp) ?_
        refine (AllReadyH.cons (o := ⟨some 74, _, _, _, _, _⟩) rfl (fun K hK_ => ?_) AllReadyH.nil)
        go_simp
        with_reducible refine (HBu.out _).mono ?_
        rintro e w5 ⟨rfl, hb5⟩
        have hk5 : Kept w w5 := hS4.step hb5
        refine hK_.out _ _ hk5 (fun _ => ?_)
        clear hK_ K
        try simp only [Act.put, List.setIfInBounds_toArray, List.set_cons_zero, List.set_cons_succ]
        refine wpAnyH_take (i := 8) (oi := ⟨some 75, _, _, _, _, _⟩) (v := ?vd8) rfl (by kernel_rfl) (by kernel_rfl) (by kernel_rfl) (fun _ _ _ h => h) (Or.inl ⟨by rfl, ?yd8⟩) hk5 ?rd8
        case yd8 => intro W hW; go_simp; first | done | with_reducible rfl
        simp only [Act.put, List.setIfInBounds_toArray, List.set_cons_zero, List.set_cons_succ]
        refine wpAnyH_ready (rs := [12]) (by kernel_rfl) (by simp) ?_
        refine (AllReadyH.cons (o := ⟨some 79, _, _, _, _, _⟩) rfl (fun K hK_ => ?_) AllReadyH.nil)
        go_simp
        with_reducible refine (HBv.out _).mono ?_
        rintro e w6 ⟨rfl, hb6⟩
        have hk6 : Kept w w6 := hk5.step hb6
        refine hK_.out _ _ hk6 (fun _ => ?_)
        clear hK_ K
        try simp only [Act.put, List.setIfInBounds_toArray, List.set_cons_zero, List.set_cons_succ]
        refine wpAnyH_take (i := 13) (oi := ⟨some 80, _, _, _, _, _⟩) (v := ?ve13) rfl (by kernel_rfl) (by kernel_rfl) (by kernel_rfl) (fun _ _ _ h => h) (Or.inl ⟨by rfl, ?ye13⟩) hk6 ?re13
        case ye13 => intro W hW; go_simp; first | done | with_reducible rfl
        simp only [Act.put, List.setIfInBounds_toArray, List.set_cons_zero, List.set_cons_succ]
        refine wpAnyH_take (i := 17) (oi := ⟨some 84, _, _, _, _, _⟩) (v := ?ve17) rfl (by kernel_rfl) (by kernel_rfl) (by kernel_rfl) (fun _ _ _ h => h) (Or.inl ⟨by rfl, ?ye17⟩) hk6 ?re17
        case ye17 => intro W hW; go_simp; first | done | with_reducible rfl
        simp only [Act.put, List.setIfInBounds_toArray, List.set_cons_zero, List.set_cons_succ]
        refine wpAnyH_take (i := 18) (oi := ⟨some 14, _, _, _, _, _⟩) (v := ?ve18) rfl (by kernel_rfl) (by kernel_rfl) (by kernel_rfl) (fun _ _ _ h => h) (Or.inl ⟨by rfl, ?ye18⟩) hk6 ?re18
        case ye18 => intro W hW; go_simp; first | done | with_reducible rfl
        simp only [Act.put, List.setIfInBounds_toArray, List.set_cons_zero, List.set_cons_succ]
        refine wpAnyH_done (by kernel_rfl) ?_ _
        rcases hfin.out with ⟨h37, hb37⟩ | ⟨hb37, hev7⟩
        · clear hfin
          have H37 := Lib.hid h37
          clear h37
          go_wp2_with (first
            | (go_at_call 10; first
              | (with_reducible refine (HZ2.out _ hk6).mono ?_; rintro e w7 ⟨rfl, hb7⟩; have hk7 := hk6.step hb7; clear hb7)
              | (with_reducible refine (HV4.out _ hk7).mono ?_; rintro e w8 ⟨rfl, hb8⟩; have hk8 := hk7.step hb8; clear hb8)))
          go_ret
          exact ⟨rfl, hk8⟩
        · clear hfin
          subst hev7
          go_wp2_with (first
            | (go_at_call 10; first
              | (with_reducible refine (HZ2.out _ hk6).mono ?_; rintro e w7 ⟨rfl, hb7⟩; have hk7 := hk6.step hb7; clear hb7)
              | (with_reducible refine (HV4.out _ hk7).mono ?_; rintro e w8 ⟨rfl, hb8⟩; have hk8 := hk7.step hb8; clear hb8)))
          go_ret
          exact ⟨rfl, hk8⟩
end Go.Proofs.YtcfgcakmffkpmaaDoor
