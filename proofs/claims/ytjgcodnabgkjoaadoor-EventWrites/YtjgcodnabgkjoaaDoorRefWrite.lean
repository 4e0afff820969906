/-
  What the document's own Write and Encode (transeptref05) answer: the event's bytes as a text; nothing that was there turns. Condition: texts of at most a million bytes, numbers below 2^64.
-/
import Derived.Test.YtjgcodnabgkjoaaDoorRefRight
import Derived.Test.YtjgcodnabgkjoaaDoorEnc
namespace Go.Proofs.YtjgcodnabgkjoaaDoor
open Go.RowKit

theorem nmW_letters (k : Nat) (hk : k < 15) (h0 : 0 < k) (ns : List Int) : nmW (hav k).bl ns (lettersS k).length = nmW (hav k).bl ns 3 := by
  have h := letters_ok k hk h0
  have h3 := (shape_split k hk h0).2.2.2.2
  have hz : ∀ i, (lettersS k).length ≤ i → i < 3 → nmW (hav k).bl ns (i + 1) = nmW (hav k).bl ns i := fun i h1 h2 => by
    have := (h i h2).2 (by omega)
    rw [nmW, if_neg (by omega)]
    simp
  obtain ⟨n, hn⟩ : ∃ n, n = (lettersS k).length := ⟨_, rfl⟩
  rw [← hn] at h3 hz ⊢
  match n, h3 with
  | 0, _ => rw [hz 2 (by omega) (by omega), hz 1 (by omega) (by omega), hz 0 (by omega) (by omega)]
  | 1, _ => rw [hz 2 (by omega) (by omega), hz 1 (by omega) (by omega)]
  | 2, _ => rw [hz 2 (by omega) (by omega)]
  | 3, _ => rfl
theorem letters_wide : ∀ k, k < 15 → 0 < k → ∀ i, i < (lettersS k).length → (((lettersS k).getD i 0).toNat = 115 ↔ 256 < (hav k).bl.getD i 0) := by decide +kernel

set_option maxHeartbeats 4000000 in
set_option maxRecDepth 100000 in
theorem refWrite_any (e : Ev) (he : EvOk e) (hs : Small e) (hr : rightE e = true) (w : World) :
    Calls Tryd.prog 23 #[.agg (evc e).toArray] w fun r w' => r = .returned (.string (str (encB e))) ∧ Below w.heap.size w w' := by
  obtain ⟨⟨hk1, hk2⟩, _⟩ := right_has hr he
  have htx := right_texts hr he
  have hnm := fun i hi hb => right_num hr he (i := i) hi hb
  obtain ⟨k, hk⟩ : ∃ k : Nat, e.kind = (k : Int) := ⟨e.kind.toNat, by omega⟩
  have hkn : e.kind.toNat = k := by omega
  have hk0 : 0 < k := by omega
  have hk15 : k < 15 := by omega
  have hEB : encB e = [UInt8.ofNat k] ++ leb e.time ++ leb e.id ++ txW e.ts (hav k).texts ++ nmW (hav k).bl e.ns (lettersS k).length := by rw [nmW_letters k hk15 hk0, encB, hkn]
  rw [hkn] at hnm
  obtain ⟨q1, q2, q3, q4, q5⟩ := shape_split k hk15 hk0
  have SH := fun W => shape_in k (by omega) (by omega) W
  have SP := fun W => split_any (shapeS k) (hav k).texts (lettersS k) q1 q2 q3 W
  have LO := letters_ok k hk15 hk0
  have LW := letters_wide k hk15 hk0
  have hbl := (hav_ok k).2.2
  have ht4 := (hav_ok k).1
  obtain ⟨n, hn⟩ : ∃ n, n = (hav k).texts := ⟨_, rfl⟩
  obtain ⟨bl, hble⟩ : ∃ b, b = (hav k).bl := ⟨_, rfl⟩
  obtain ⟨H, hH⟩ : ∃ H, H = shapeS k := ⟨_, rfl⟩
  obtain ⟨Lt, hLt⟩ : ∃ H, H = lettersS k := ⟨_, rfl⟩
  rw [← hn, ← hble, ← hLt] at hEB
  rw [← hn] at SP ht4
  rw [← hble] at LO hbl hnm
  rw [← hH] at SH SP
  rw [← hLt] at SP LO q5 LW
  rw [← hble] at LW
  have zL := str_size Lt
  have hkw : IntKind.u8.wrap (k : Int) = (k : Int) := by rw [IntKind.wrap_u8]; omega
  have kc : (evc e)[0]? = some (.int .i64 (k : Int)) := by rw [evc_kind, hk]
  have tc : (evc e)[1]? = some (.int .u64 (e.time : Int)) := rfl
  have ic := evc_id e
  have xc : ∀ i, i < 4 → (evc e)[3 + i]? = some (.string (str (e.ts.getD i []))) := fun i hi => evc_text he hi
  have nc : ∀ i, i < 3 → (evc e)[7 + i]? = some (.int .i64 (e.ns.getD i 0)) := fun i hi => evc_num he hi
  have hlt4 : e.ts.length = 4 := he.1
  have P1 := fun W => refPut_any (e.time + 1) e.time W (by omega) hs.1
  have P2 := fun W => refPut_any (e.id + 1) e.id W (by omega) hs.2
  obtain ⟨C, hC⟩ : ∃ C, C = evc e := ⟨_, rfl⟩
  rw [← hC] at kc ic tc xc nc ⊢
  have x3 := xc 0 (by omega)
  have x4 := xc 1 (by omega)
  have x5 := xc 2 (by omega)
  have x6 := xc 3 (by omega)
  have x7 := nc 0 (by omega)
  have x8 := nc 1 (by omega)
  have x9 := nc 2 (by omega)
  obtain ⟨ts, hts⟩ : ∃ t, t = e.ts := ⟨_, rfl⟩
  obtain ⟨ns, hns⟩ : ∃ t, t = e.ns := ⟨_, rfl⟩
  obtain ⟨i, hi⟩ : ∃ i, i = e.id := ⟨_, rfl⟩
  obtain ⟨tm, htm⟩ : ∃ i, i = e.time := ⟨_, rfl⟩
  obtain ⟨R, hR⟩ : ∃ R, R = encB e := ⟨_, rfl⟩
  rw [← hR] at hEB ⊢
  rw [← hts] at hEB htx hlt4 x3 x4 x5 x6
  rw [← hns] at hEB hnm x7 x8 x9
  obtain ⟨t0, ht0⟩ : ∃ t, t = ts.getD 0 [] := ⟨_, rfl⟩
  rw [← ht0] at x3
  obtain ⟨t1, ht1⟩ : ∃ t, t = ts.getD 1 [] := ⟨_, rfl⟩
  rw [← ht1] at x4
  obtain ⟨t2, ht2⟩ : ∃ t, t = ts.getD 2 [] := ⟨_, rfl⟩
  rw [← ht2] at x5
  obtain ⟨t3, ht3⟩ : ∃ t, t = ts.getD 3 [] := ⟨_, rfl⟩
  rw [← ht3] at x6
  obtain ⟨m0, hm0⟩ : ∃ t, t = ns.getD 0 0 := ⟨_, rfl⟩
  rw [← hm0] at x7
  obtain ⟨m1, hm1⟩ : ∃ t, t = ns.getD 1 0 := ⟨_, rfl⟩
  rw [← hm1] at x8
  obtain ⟨m2, hm2⟩ : ∃ t, t = ns.getD 2 0 := ⟨_, rfl⟩
  rw [← hm2] at x9
  have HTM := Lib.hid (And.intro (And.intro ht0 (And.intro ht1 (And.intro ht2 ht3))) (And.intro hm0 (And.intro hm1 hm2)))
  clear ht0 ht1 ht2 ht3 hm0 hm1 hm2
  have HSM := Lib.hid hs
  rw [Small, ← hi, ← htm] at HSM
  rw [← hi] at hEB ic P2
  rw [← htm] at hEB tc P1
  have HEB := Lib.hid hEB
  have HSH := Lib.hid SH
  have HSP := Lib.hid SP
  have HLO := Lib.hid (And.intro LO (And.intro LW (And.intro hbl (And.intro htx (And.intro hnm hlt4)))))
  have HP1 := Lib.hid P1
  have HP2 := Lib.hid P2
  have sap1 := str_append [UInt8.ofNat k] (leb tm)
  have sap2 := str_append ([UInt8.ofNat k] ++ leb tm) (leb i)
  obtain ⟨S1, hS1⟩ : ∃ S, S = [UInt8.ofNat k] ++ leb tm := ⟨_, rfl⟩
  obtain ⟨S2, hS2⟩ : ∃ S, S = S1 ++ leb i := ⟨_, rfl⟩
  have hLI : S2.length ≤ 21 := by
    have h1 := leb_len10 HSM.out.1
    have h2 := leb_len10 HSM.out.2
    rw [hS2, hS1]
    simp
    omega
  have zz1 : ¬ 9223372036854775807 < (str [UInt8.ofNat k]).size + (str (leb tm)).size := by
    have h1 := leb_len10 HSM.out.1
    rw [str_size, str_size]
    simp
    omega
  have zz2 : ¬ 9223372036854775807 < (str S1).size + (str (leb i)).size := by
    have h1 := leb_len10 HSM.out.1
    have h2 := leb_len10 HSM.out.2
    rw [str_size, str_size, hS1]
    simp
    omega
  rw [← hS1] at sap1 sap2
  rw [← hS2] at sap2
  have HS12 := Lib.hid (And.intro hS1 hS2)
  obtain ⟨c0, hc0⟩ : ∃ c, c = [UInt8.ofNat k] := ⟨_, rfl⟩
  have hone : (k : Int) = ((UInt8.ofNat k).toNat : Int) := by rw [toNat_ofNat_lt k (by omega)]
  have HONE := Lib.hid hone
  obtain ⟨lt, hlt⟩ : ∃ c, c = leb tm := ⟨_, rfl⟩
  obtain ⟨li, hli⟩ : ∃ c, c = leb i := ⟨_, rfl⟩
  rw [← hc0, ← hlt] at sap1 zz1
  rw [← hli] at sap2 zz2
  rw [← hlt] at HP1
  rw [← hli] at HP2
  have HC0 := Lib.hid (And.intro hc0 (And.intro hlt hli))
  clear hEB SH SP LO LW hbl htx hnm hlt4 hC hts hns hi htm hR hn hble hH hLt q1 q2 q3 q4 xc nc hkn hk hk1 hk2 he hs hr P1 P2 hS1 hS2 hc0 hlt hli hone
  go_enter Tryd.func23, Tryd.ntmps23
  go_wp2_with (first
    | ((with_reducible show wpList _ _ _ (⟨some 1, _, _, _, _, _⟩ :: _) _ _); refine wp_box _ rfl 24 (.tmp 0) rfl C rfl ?_; intro w1 g1 hB1 hf1; simp only [Act.put, List.setIfInBounds_toArray, List.set_cons_zero, List.set_cons_succ]))
  have b1 := hf1.below
  refine Code.wp_mono (Q := fun e a W => e = .normal ∧ (∃ b, a = ⟨#[.agg C.toArray, .pointer (some ⟨g1, 0, none⟩), .string ⟨#[]⟩, .string (str S2), undef, undef, undef, undef, undef, undef, .pointer (some ⟨g1, 0, none⟩), .int .i64 (k : Int), .int .u8 (k : Int), .slice (some ⟨b, 0, none⟩) 1 1, .string (str c0), .pointer (some ⟨g1, 1, none⟩), .int .u64 (tm : Int), .string (str lt), .string (str S1), .pointer (some ⟨g1, 2, none⟩), .int .u64 (i : Int), .string (str li), .string (str S2), undef, undef, undef, undef, undef, undef, undef, undef, undef, undef, undef, undef, undef, undef, undef, undef, undef, undef, undef, undef, undef, undef, undef, undef, undef, undef, undef, undef, undef, undef, undef, undef, undef, undef, undef, undef, undef, undef, undef, undef, undef, undef, undef, undef, undef, undef, undef, undef, undef, undef, undef, undef, undef, undef, undef, undef, undef, undef, undef, undef, undef, undef, undef, undef, undef, undef], []⟩) ∧ Kept w1 W) ?imp ?reg
  case reg =>
    refine wp_region_held_drew (S := Kept w1) (by kernel_rfl) (Kept.refl w1).drew (fun hS => ?_)
    revert hS
    generalize w1.drew = X0
    intro hS
    have ck := fun W (hW : Kept w1 W) => (hB1.kept hW).cell kc
    have ct := fun W (hW : Kept w1 W) => (hB1.kept hW).cell tc
    have ci := fun W (hW : Kept w1 W) => (hB1.kept hW).cell ic
    refine wpAnyH_take (i := 0) (oi := ⟨some 10, _, _, _, _, _⟩) (v := ?va0) rfl (by kernel_rfl) (by kernel_rfl) (by kernel_rfl) (fun _ _ _ h => by cases h.1) (Or.inl ⟨by rfl, ?ya0⟩) hS ?ra0
    case ya0 => intro W hW; go_simp; first | done | with_reducible rfl
    simp only [Act.put, List.setIfInBounds_toArray, List.set_cons_zero, List.set_cons_succ]
    refine wpAnyH_take (i := 1) (oi := ⟨some 11, _, _, _, _, _⟩) (v := ?va1) rfl (by kernel_rfl) (by kernel_rfl) (by kernel_rfl) (fun _ _ _ h => by cases h.1) (Or.inl ⟨by rfl, ?ya1⟩) hS ?ra1
    case ya1 => intro W hW; have v0 := ck W hW; go_simp; first | done | with_reducible rfl
    simp only [Act.put, List.setIfInBounds_toArray, List.set_cons_zero, List.set_cons_succ]
    refine wpAnyH_take (i := 2) (oi := ⟨some 12, _, _, _, _, _⟩) (v := ?va2) rfl (by kernel_rfl) (by kernel_rfl) (by kernel_rfl) (fun _ _ _ h => by cases h.1) (Or.inl ⟨by rfl, ?ya2⟩) hS ?ra2
    case ya2 => intro W hW; go_simp; first | done | with_reducible rfl
    simp only [Act.put, List.setIfInBounds_toArray, List.set_cons_zero, List.set_cons_succ]
    refine wpAnyH_take (i := 5) (oi := ⟨some 15, _, _, _, _, _⟩) (v := ?va5) rfl (by kernel_rfl) (by kernel_rfl) (by kernel_rfl) (fun _ _ _ h => by cases h.1) (Or.inl ⟨by rfl, ?ya5⟩) hS ?ra5
    case ya5 => intro W hW; go_simp; first | done | with_reducible rfl
    simp only [Act.put, List.setIfInBounds_toArray, List.set_cons_zero, List.set_cons_succ]
    refine wpAnyH_take (i := 6) (oi := ⟨some 16, _, _, _, _, _⟩) (v := ?va6) rfl (by kernel_rfl) (by kernel_rfl) (by kernel_rfl) (fun _ _ _ h => by cases h.1) (Or.inl ⟨by rfl, ?ya6⟩) hS ?ra6
    case ya6 => intro W hW; have v0 := ct W hW; go_simp; first | done | with_reducible rfl
    simp only [Act.put, List.setIfInBounds_toArray, List.set_cons_zero, List.set_cons_succ]
    refine wpAnyH_take (i := 9) (oi := ⟨some 19, _, _, _, _, _⟩) (v := ?va9) rfl (by kernel_rfl) (by kernel_rfl) (by kernel_rfl) (fun _ _ _ h => by cases h.1) (Or.inl ⟨by rfl, ?ya9⟩) hS ?ra9
    case ya9 => intro W hW; go_simp; first | done | with_reducible rfl
    simp only [Act.put, List.setIfInBounds_toArray, List.set_cons_zero, List.set_cons_succ]
    refine wpAnyH_take (i := 10) (oi := ⟨some 20, _, _, _, _, _⟩) (v := ?va10) rfl (by kernel_rfl) (by kernel_rfl) (by kernel_rfl) (fun _ _ _ h => by cases h.1) (Or.inl ⟨by rfl, ?ya10⟩) hS ?ra10
    case ya10 => intro W hW; have v0 := ci W hW; go_simp; first | done | with_reducible rfl
    simp only [Act.put, List.setIfInBounds_toArray, List.set_cons_zero, List.set_cons_succ]
    refine wpAnyH_ready (rs := [3, 7]) (by kernel_rfl) (by simp) ?_
    refine (AllReadyH.cons (o := ⟨some 13, _, _, _, _, _⟩) rfl (fun K hK => ?_) (AllReadyH.cons (o := ⟨some 17, _, _, _, _, _⟩) rfl (fun K hK => ?_) AllReadyH.nil))
    · go_simp
      have k1 : Kept w1 (X0.alloc (.cells #[.int .u8 (k : Int)] 5)) := Kept.alloc hS _
      have h1 : Bs (X0.alloc (.cells #[.int .u8 (k : Int)] 5)) (X0.alloc (.cells #[.int .u8 (k : Int)] 5)).heap.size (some ⟨X0.heap.size, 0, none⟩) 1 c0 := by rw [HC0.out.1]; exact (Bs.one' X0 (k : Int) (UInt8.ofNat k) HONE.out).more (by simp)
      refine hK.out _ _ k1 (fun _ => ?_)
      clear hK K
      try simp only [Act.put, List.setIfInBounds_toArray, List.set_cons_zero, List.set_cons_succ]
      generalize hX1 : X0.alloc (.cells #[.int .u8 (k : Int)] 5) = X1 at k1 h1 ⊢
      clear hX1
      have kk1 := k1
      refine wpAnyH_switch (S' := Kept X1) (fun W hW => Below.trans kk1 (Below.mono hW kk1.size)) ?_
      have z1 := Kept.refl X1
      refine wpAnyH_take (i := 4) (oi := ⟨some 14, _, _, _, _, _⟩) (v := _) rfl (by kernel_rfl) (by kernel_rfl) (by kernel_rfl) (fun _ _ _ h => by cases h.1) (yld_str (by rfl) (.tmp 13) rfl (some ⟨X0.heap.size, 0, none⟩) 1 1 c0 rfl (fun W hW => ⟨_, h1.below hW⟩)) z1 ?_
      simp only [Act.put, List.setIfInBounds_toArray, List.set_cons_zero, List.set_cons_succ]
      refine wpAnyH_ready (rs := [7]) (by kernel_rfl) (by simp) ?_
      refine (AllReadyH.cons (o := ⟨some 17, _, _, _, _, _⟩) rfl (fun K hK => ?_) AllReadyH.nil)
      go_simp
      refine (HP1.out X1).mono ?_
      rintro e X2 ⟨rfl, e2⟩
      have k2 := Kept.step z1 e2
      refine hK.out _ _ k2 (fun _ => ?_)
      clear hK K
      try simp only [Act.put, List.setIfInBounds_toArray, List.set_cons_zero, List.set_cons_succ]
      refine wpAnyH_take (i := 8) (oi := ⟨some 18, _, _, _, _, _⟩) (v := ?vL38) rfl (by kernel_rfl) (by kernel_rfl) (by kernel_rfl) (fun _ _ _ h => by cases h.1) (Or.inl ⟨by rfl, ?yL38⟩) k2 ?rL38
      case yL38 => intro W hW; go_simp; first | done | with_reducible rfl
      simp only [Act.put, List.setIfInBounds_toArray, List.set_cons_zero, List.set_cons_succ]
      refine wpAnyH_ready (rs := [11]) (by kernel_rfl) (by simp) ?_
      refine (AllReadyH.cons (o := ⟨some 21, _, _, _, _, _⟩) rfl (fun K hK => ?_) AllReadyH.nil)
      go_simp
      refine (HP2.out X2).mono ?_
      rintro e X4 ⟨rfl, e4⟩
      have k4 := Kept.step k2 e4
      refine hK.out _ _ k4 (fun _ => ?_)
      clear hK K
      try simp only [Act.put, List.setIfInBounds_toArray, List.set_cons_zero, List.set_cons_succ]
      refine wpAnyH_take (i := 12) (oi := ⟨some 22, _, _, _, _, _⟩) (v := ?vL512) rfl (by kernel_rfl) (by kernel_rfl) (by kernel_rfl) (fun _ _ _ h => by cases h.1) (Or.inl ⟨by rfl, ?yL512⟩) k4 ?rL512
      case yL512 => intro W hW; go_simp; first | done | with_reducible rfl
      simp only [Act.put, List.setIfInBounds_toArray, List.set_cons_zero, List.set_cons_succ]
      refine wpAnyH_take (i := 13) (oi := ⟨some 3, _, _, _, _, _⟩) (v := ?vL513) rfl (by kernel_rfl) (by kernel_rfl) (by kernel_rfl) (fun _ _ _ h => by cases h.1) (Or.inl ⟨by rfl, ?yL513⟩) k4 ?rL513
      case yL513 => intro W hW; go_simp; first | done | with_reducible rfl
      simp only [Act.put, List.setIfInBounds_toArray, List.set_cons_zero, List.set_cons_succ]
      exact wpAnyH_done (by kernel_rfl) ⟨rfl, ⟨_, rfl⟩, Below.trans kk1 (Below.mono k4 kk1.size)⟩ _
    · go_simp
      refine (HP1.out X0).mono ?_
      rintro e X6 ⟨rfl, e6⟩
      have k6 := Kept.step hS e6
      refine hK.out _ _ k6 (fun _ => ?_)
      clear hK K
      try simp only [Act.put, List.setIfInBounds_toArray, List.set_cons_zero, List.set_cons_succ]
      refine wpAnyH_ready (rs := [3, 11]) (by kernel_rfl) (by simp) ?_
      refine (AllReadyH.cons (o := ⟨some 13, _, _, _, _, _⟩) rfl (fun K hK => ?_) (AllReadyH.cons (o := ⟨some 21, _, _, _, _, _⟩) rfl (fun K hK => ?_) AllReadyH.nil))
      · go_simp
        have k7 : Kept w1 (X6.alloc (.cells #[.int .u8 (k : Int)] 5)) := Kept.alloc k6 _
        have h7 : Bs (X6.alloc (.cells #[.int .u8 (k : Int)] 5)) (X6.alloc (.cells #[.int .u8 (k : Int)] 5)).heap.size (some ⟨X6.heap.size, 0, none⟩) 1 c0 := by rw [HC0.out.1]; exact (Bs.one' X6 (k : Int) (UInt8.ofNat k) HONE.out).more (by simp)
        refine hK.out _ _ k7 (fun _ => ?_)
        clear hK K
        try simp only [Act.put, List.setIfInBounds_toArray, List.set_cons_zero, List.set_cons_succ]
        generalize hX7 : X6.alloc (.cells #[.int .u8 (k : Int)] 5) = X7 at k7 h7 ⊢
        clear hX7
        have kk7 := k7
        refine wpAnyH_switch (S' := Kept X7) (fun W hW => Below.trans kk7 (Below.mono hW kk7.size)) ?_
        have z7 := Kept.refl X7
        refine wpAnyH_take (i := 4) (oi := ⟨some 14, _, _, _, _, _⟩) (v := _) rfl (by kernel_rfl) (by kernel_rfl) (by kernel_rfl) (fun _ _ _ h => by cases h.1) (yld_str (by rfl) (.tmp 13) rfl (some ⟨X6.heap.size, 0, none⟩) 1 1 c0 rfl (fun W hW => ⟨_, h7.below hW⟩)) z7 ?_
        simp only [Act.put, List.setIfInBounds_toArray, List.set_cons_zero, List.set_cons_succ]
        refine wpAnyH_take (i := 8) (oi := ⟨some 18, _, _, _, _, _⟩) (v := ?vL88) rfl (by kernel_rfl) (by kernel_rfl) (by kernel_rfl) (fun _ _ _ h => by cases h.1) (Or.inl ⟨by rfl, ?yL88⟩) z7 ?rL88
        case yL88 => intro W hW; go_simp; first | done | with_reducible rfl
        simp only [Act.put, List.setIfInBounds_toArray, List.set_cons_zero, List.set_cons_succ]
        refine wpAnyH_ready (rs := [11]) (by kernel_rfl) (by simp) ?_
        refine (AllReadyH.cons (o := ⟨some 21, _, _, _, _, _⟩) rfl (fun K hK => ?_) AllReadyH.nil)
        go_simp
        refine (HP2.out X7).mono ?_
        rintro e X9 ⟨rfl, e9⟩
        have k9 := Kept.step z7 e9
        refine hK.out _ _ k9 (fun _ => ?_)
        clear hK K
        try simp only [Act.put, List.setIfInBounds_toArray, List.set_cons_zero, List.set_cons_succ]
        refine wpAnyH_take (i := 12) (oi := ⟨some 22, _, _, _, _, _⟩) (v := ?vL1012) rfl (by kernel_rfl) (by kernel_rfl) (by kernel_rfl) (fun _ _ _ h => by cases h.1) (Or.inl ⟨by rfl, ?yL1012⟩) k9 ?rL1012
        case yL1012 => intro W hW; go_simp; first | done | with_reducible rfl
        simp only [Act.put, List.setIfInBounds_toArray, List.set_cons_zero, List.set_cons_succ]
        refine wpAnyH_take (i := 13) (oi := ⟨some 3, _, _, _, _, _⟩) (v := ?vL1013) rfl (by kernel_rfl) (by kernel_rfl) (by kernel_rfl) (fun _ _ _ h => by cases h.1) (Or.inl ⟨by rfl, ?yL1013⟩) k9 ?rL1013
        case yL1013 => intro W hW; go_simp; first | done | with_reducible rfl
        simp only [Act.put, List.setIfInBounds_toArray, List.set_cons_zero, List.set_cons_succ]
        exact wpAnyH_done (by kernel_rfl) ⟨rfl, ⟨_, rfl⟩, Below.trans kk7 (Below.mono k9 kk7.size)⟩ _
      · go_simp
        refine (HP2.out X6).mono ?_
        rintro e X11 ⟨rfl, e11⟩
        have k11 := Kept.step k6 e11
        refine hK.out _ _ k11 (fun _ => ?_)
        clear hK K
        try simp only [Act.put, List.setIfInBounds_toArray, List.set_cons_zero, List.set_cons_succ]
        refine wpAnyH_ready (rs := [3]) (by kernel_rfl) (by simp) ?_
        refine (AllReadyH.cons (o := ⟨some 13, _, _, _, _, _⟩) rfl (fun K hK => ?_) AllReadyH.nil)
        go_simp
        have k12 : Kept w1 (X11.alloc (.cells #[.int .u8 (k : Int)] 5)) := Kept.alloc k11 _
        have h12 : Bs (X11.alloc (.cells #[.int .u8 (k : Int)] 5)) (X11.alloc (.cells #[.int .u8 (k : Int)] 5)).heap.size (some ⟨X11.heap.size, 0, none⟩) 1 c0 := by rw [HC0.out.1]; exact (Bs.one' X11 (k : Int) (UInt8.ofNat k) HONE.out).more (by simp)
        refine hK.out _ _ k12 (fun _ => ?_)
        clear hK K
        try simp only [Act.put, List.setIfInBounds_toArray, List.set_cons_zero, List.set_cons_succ]
        generalize hX12 : X11.alloc (.cells #[.int .u8 (k : Int)] 5) = X12 at k12 h12 ⊢
        clear hX12
        have kk12 := k12
        refine wpAnyH_switch (S' := Kept X12) (fun W hW => Below.trans kk12 (Below.mono hW kk12.size)) ?_
        have z12 := Kept.refl X12
        refine wpAnyH_take (i := 4) (oi := ⟨some 14, _, _, _, _, _⟩) (v := _) rfl (by kernel_rfl) (by kernel_rfl) (by kernel_rfl) (fun _ _ _ h => by cases h.1) (yld_str (by rfl) (.tmp 13) rfl (some ⟨X11.heap.size, 0, none⟩) 1 1 c0 rfl (fun W hW => ⟨_, h12.below hW⟩)) z12 ?_
        simp only [Act.put, List.setIfInBounds_toArray, List.set_cons_zero, List.set_cons_succ]
        refine wpAnyH_take (i := 8) (oi := ⟨some 18, _, _, _, _, _⟩) (v := ?vL138) rfl (by kernel_rfl) (by kernel_rfl) (by kernel_rfl) (fun _ _ _ h => by cases h.1) (Or.inl ⟨by rfl, ?yL138⟩) z12 ?rL138
        case yL138 => intro W hW; go_simp; first | done | with_reducible rfl
        simp only [Act.put, List.setIfInBounds_toArray, List.set_cons_zero, List.set_cons_succ]
        refine wpAnyH_take (i := 12) (oi := ⟨some 22, _, _, _, _, _⟩) (v := ?vL1312) rfl (by kernel_rfl) (by kernel_rfl) (by kernel_rfl) (fun _ _ _ h => by cases h.1) (Or.inl ⟨by rfl, ?yL1312⟩) z12 ?rL1312
        case yL1312 => intro W hW; go_simp; first | done | with_reducible rfl
        simp only [Act.put, List.setIfInBounds_toArray, List.set_cons_zero, List.set_cons_succ]
        refine wpAnyH_take (i := 13) (oi := ⟨some 3, _, _, _, _, _⟩) (v := ?vL1313) rfl (by kernel_rfl) (by kernel_rfl) (by kernel_rfl) (fun _ _ _ h => by cases h.1) (Or.inl ⟨by rfl, ?yL1313⟩) z12 ?rL1313
        case yL1313 => intro W hW; go_simp; first | done | with_reducible rfl
        simp only [Act.put, List.setIfInBounds_toArray, List.set_cons_zero, List.set_cons_succ]
        exact wpAnyH_done (by kernel_rfl) ⟨rfl, ⟨_, rfl⟩, Below.trans kk12 (Below.mono z12 kk12.size)⟩ _
  case imp =>
    rintro e a W ⟨rfl, ⟨b, rfl⟩, hK⟩
    have D2 := hB1.kept hK
    have b2 := b1.trans (Below.mono hK b1.size)
    have c1 := D2.cell kc
    clear hB1 hf1 b1 hK
    go_wp2_with fail
    refine (HSH.out W).mono ?_
    rintro r w2' ⟨rfl, rfl⟩
    go_wp2_with fail
    refine (HSP.out W).mono ?_
    rintro r w2 ⟨rfl, e2⟩
    have D3 := D2.kept e2
    have b3 := b2.trans (e2.mono b2.size)
    have d3 := D3.cell x3
    have d4 := D3.cell x4
    have d5 := D3.cell x5
    have d6 := D3.cell x6
    clear D2 b2 e2 c1
    go_wp2_with fail
    have BT : Blk (w2.alloc (.cells #[.string (str t0), .string (str t1), .string (str t2), .string (str t3)] 9)) w2.heap.size 9 [.string (str t0), .string (str t1), .string (str t2), .string (str t3)] := Blk.new _ _ _
    have D4 := D3.alloc (.cells #[.string (str t0), .string (str t1), .string (str t2), .string (str t3)] 9)
    have b4 := b3.alloc b3.size (.cells #[.string (str t0), .string (str t1), .string (str t2), .string (str t3)] 9)
    generalize hW3 : w2.alloc (.cells #[.string (str t0), .string (str t1), .string (str t2), .string (str t3)] 9) = w3 at BT D4 b4 ⊢
    generalize w2.heap.size = gt at BT ⊢
    clear hW3 D3 b3 d3 d4 d5 d6
    go_loopw [3, 7] (fun o v wr => ∃ j : Nat, j ≤ n ∧ v = .int .i64 (j : Int) ∧ o = .string (str (S2 ++ txW ts j)) ∧ Blk wr gt 9 [.string (str t0), .string (str t1), .string (str t2), .string (str t3)] ∧ Blk wr g1 24 C ∧ Below w.heap.size w wr) (fun _ v _ => n - (intOf v).toNat)
    case atStart => exact ⟨0, by omega, rfl, by simp [txW], BT, D4, b4⟩
    case round =>
      obtain ⟨j, hj, rfl, rfl, BR, DR, bR⟩ := hrel
      clear BT D4 b4
      by_cases hlt : j < n
      · have hlt' : (j : Int) < (n : Int) := by omega
        have hj4 : j < 4 := by omega
        have hj4' : (j : Int) < 4 := by omega
        have cv : wr.cell? ⟨gt, j, none⟩ = some (.string (str (ts.getD j []))) := by
          match j, hj4 with
          | 0, _ => rw [← HTM.out.1.1]; exact BR.cell rfl
          | 1, _ => rw [← HTM.out.1.2.1]; exact BR.cell rfl
          | 2, _ => rw [← HTM.out.1.2.2.1]; exact BR.cell rfl
          | 3, _ => rw [← HTM.out.1.2.2.2]; exact BR.cell rfl
        have htl : (ts.getD j []).length ≤ 4096 := by
          have hl4 := HLO.out.2.2.2.2.2
          rw [List.getD_eq_getElem?_getD, List.getElem?_eq_getElem (by rw [hl4]; exact hj4)]
          exact HLO.out.2.2.2.1 _ (List.getElem_mem _)
        have htw := txW_succ ts j (by have hl4 := HLO.out.2.2.2.2.2; omega)
        have PT := fun W => refPutText_any (ts.getD j []) W (by omega)
        obtain ⟨t, ht⟩ : ∃ t, t = ts.getD j [] := ⟨_, rfl⟩
        rw [← ht] at cv PT htw htl
        have HPT := Lib.hid PT
        have sj := str_append (S2 ++ txW ts j) (leb t.length ++ t)
        have hnew : (S2 ++ txW ts j) ++ (leb t.length ++ t) = S2 ++ txW ts (j + 1) := by rw [htw, List.append_assoc]
        rw [hnew] at sj
        obtain ⟨T2, hT2⟩ : ∃ T, T = S2 ++ txW ts (j + 1) := ⟨_, rfl⟩
        obtain ⟨T1, hT1⟩ : ∃ T, T = S2 ++ txW ts j := ⟨_, rfl⟩
        obtain ⟨U, hU⟩ : ∃ T, T = leb t.length ++ t := ⟨_, rfl⟩
        have zzj : ¬ 9223372036854775807 < (str T1).size + (str U).size := by
          have h1 := txW_len HLO.out.2.2.2.1 j
          have h2 := leb_len10 (n := t.length) (by omega)
          rw [str_size, str_size, hT1, hU]
          simp only [List.length_append]
          omega
        rw [← hT2, ← hT1, ← hU] at sj
        rw [← hU] at HPT
        have HT := Lib.hid hT2
        rw [← hT1]
        clear PT htw hnew hT2 hT1 hU ht
        go_wp2_with fail
        refine (HPT.out wr).mono ?_
        rintro r w5 ⟨rfl, e5⟩
        go_wp2_with fail
        go_roundw
        case rel => exact ⟨j + 1, by omega, by go_num, by rw [← HT.out], BR.kept e5, DR.kept e5, bR.trans (e5.mono bR.size)⟩
        case measure => simp [intOf]; omega
      · obtain rfl : j = n := by omega
        have d7 := DR.cell x7
        have d8 := DR.cell x8
        have d9 := DR.cell x9
        obtain ⟨S3, hS3⟩ : ∃ S, S = S2 ++ txW ts j := ⟨_, rfl⟩
        rw [← hS3]
        have hS3l : S3.length ≤ 17000 := by
          have h1 := txW_len HLO.out.2.2.2.1 j
          rw [hS3]
          simp only [List.length_append]
          omega
        have HS3 := Lib.hid hS3
        clear hS3
        go_wp2_with fail
        have BN : Blk (wr.alloc (.cells #[.int .i64 m0, .int .i64 m1, .int .i64 m2] 3)) wr.heap.size 3 [.int .i64 m0, .int .i64 m1, .int .i64 m2] := Blk.new _ _ _
        have b5 := bR.alloc bR.size (.cells #[.int .i64 m0, .int .i64 m1, .int .i64 m2] 3)
        generalize hW5 : wr.alloc (.cells #[.int .i64 m0, .int .i64 m1, .int .i64 m2] 3) = w5 at BN b5 ⊢
        generalize wr.heap.size = gn at BN ⊢
        clear hW5 BR DR bR d7 d8 d9
        go_loopw [3, 9] (fun o v wr => ∃ y : Nat, y ≤ Lt.length ∧ v = .int .i64 (y : Int) ∧ o = .string (str (S3 ++ nmW bl ns y)) ∧ Blk wr gn 3 [.int .i64 m0, .int .i64 m1, .int .i64 m2] ∧ Below w.heap.size w wr) (fun _ v _ => Lt.length - (intOf v).toNat)
        case atStart => exact ⟨0, by omega, rfl, by simp [nmW], BN, b5⟩
        case round =>
          obtain ⟨y, hy, rfl, rfl, BR, bR⟩ := hrel
          clear BN b5
          by_cases hlt : y < Lt.length
          · have hlt' : (y : Int) < (Lt.length : Int) := by omega
            have hy3 : y < 3 := by omega
            have hy3' : (y : Int) < 3 := by omega
            have cv : wr.cell? ⟨gn, y, none⟩ = some (.int .i64 (ns.getD y 0)) := by
              match y, hy3 with
              | 0, _ => rw [← HTM.out.2.1]; exact BR.cell rfl
              | 1, _ => rw [← HTM.out.2.2.1]; exact BR.cell rfl
              | 2, _ => rw [← HTM.out.2.2.2]; exact BR.cell rfl
            obtain ⟨l1, l2⟩ := (HLO.out.1 y hy3).1 hlt
            have l3 := HLO.out.2.1 y hlt
            have hb0 : 0 < bl.getD y 0 := by omega
            obtain ⟨m, hm1, hm2⟩ := HLO.out.2.2.2.2.1 y hy3 hb0
            have hb1 := HLO.out.2.2.1 y
            have hnw : nmW bl ns (y + 1) = nmW bl ns y ++ smW (bl.getD y 0) m := by rw [nmW, if_pos hb0, hm1]; rfl
            obtain ⟨b, hb⟩ : ∃ b, b = bl.getD y 0 := ⟨_, rfl⟩
            obtain ⟨mb, hmb⟩ : ∃ mb, mb = (Lt.getD y 0).toNat := ⟨_, rfl⟩
            have hget : ∀ h, ((str Lt)[y]'h).toNat = mb := fun h => by
              rw [hmb]
              simp [str, List.getD, List.getElem?_eq_getElem hlt, ByteArray.getElem_eq_getElem_data]
            have hm8 : mb < 256 := by rw [hmb]; exact UInt8.toNat_lt _
            rw [hm1] at cv
            rw [← hb] at l3 hb0 hb1 hm2 hnw
            rw [← hmb] at l3
            obtain ⟨T1, hT1⟩ : ∃ T, T = S3 ++ nmW bl ns y := ⟨_, rfl⟩
            obtain ⟨r, hr⟩ : ∃ r : Nat, r = m % 256 := ⟨_, rfl⟩
            have hr1 : (m : Int) % 256 = (r : Int) := by omega
            have hrw : IntKind.u8.wrap (r : Int) = (r : Int) := by rw [IntKind.wrap_u8]; omega
            have hr2 : (r : Int) = ((UInt8.ofNat r).toNat : Int) := by rw [toNat_ofNat_lt r (by omega)]
            have hT1l : T1.length ≤ 18000 := by
              have h1 := nmW_len bl ns y
              rw [hT1]
              simp only [List.length_append]
              omega
            rw [← hT1]
            by_cases hw : 256 < b
            · have hm115 := l3.2 hw
              have he115 : ((mb : Int) == 115) = true := by simp; omega
              obtain ⟨q, hq⟩ : ∃ q : Nat, q = m / 256 := ⟨_, rfl⟩
              have hq1 : (m : Int) / 256 = (q : Int) := by omega
              have hqw : IntKind.u8.wrap (q : Int) = (q : Int) := by rw [IntKind.wrap_u8]; omega
              have hq2 : (q : Int) = ((UInt8.ofNat q).toNat : Int) := by rw [toNat_ofNat_lt q (by omega)]
              have hsm : smW b m = [UInt8.ofNat q, UInt8.ofNat r] := by rw [smW, if_pos hw, hq, hr]
              have s1 := str_append T1 [UInt8.ofNat q]
              have s2 := str_append (T1 ++ [UInt8.ofNat q]) [UInt8.ofNat r]
              obtain ⟨T2, hT2⟩ : ∃ T, T = T1 ++ [UInt8.ofNat q] := ⟨_, rfl⟩
              obtain ⟨T3, hT3⟩ : ∃ T, T = T2 ++ [UInt8.ofNat r] := ⟨_, rfl⟩
              have hTT : T3 = S3 ++ nmW bl ns (y + 1) := by rw [hT3, hT2, hT1, hnw, hsm]; simp
              have zs1 : ¬ 9223372036854775807 < (str T1).size + (str [UInt8.ofNat q]).size := by rw [str_size, str_size]; simp; omega
              have zs2 : ¬ 9223372036854775807 < (str T2).size + (str [UInt8.ofNat r]).size := by rw [str_size, str_size, hT2]; simp; omega
              rw [← hT2] at s1 s2
              rw [← hT3] at s2
              obtain ⟨u1, hu1⟩ : ∃ u, u = [UInt8.ofNat q] := ⟨_, rfl⟩
              obtain ⟨u2, hu2⟩ : ∃ u, u = [UInt8.ofNat r] := ⟨_, rfl⟩
              rw [← hu1] at s1 zs1
              rw [← hu2] at s2 zs2
              have HTT := Lib.hid hTT
              have HU := Lib.hid (And.intro hu1 (And.intro hu2 (And.intro hq2 hr2)))
              have ca : ∀ o, (wr.alloc o).cell? ⟨gn, y, none⟩ = some (.int .i64 (m : Int)) := fun o => by
                have h1 := BR.lt
                rw [World.cell?_alloc_lt wr o ⟨gn, y, none⟩ h1]
                exact cv
              have hb2 : ∀ W : World, Bs ((W.alloc (.cells #[.int .u8 (q : Int)] 5)).alloc (.cells #[.int .u8 (r : Int)] 5)) (W.heap.size + 1 + 1) (some ⟨W.heap.size + 1, 0, none⟩) 1 u2 := fun W => by
                have h := Bs.one' (W.alloc (.cells #[.int .u8 (q : Int)] 5)) (r : Int) (UInt8.ofNat r) hr2
                rw [hu2]
                rwa [show (W.alloc (.cells #[.int .u8 (q : Int)] 5)).heap.size = W.heap.size + 1 by simp] at h
              clear hT1 hT2 hT3 hTT hnw hsm hu1 hu2 hq hr l3 hm115 hb hmb hm1 hq2 hr2
              go_wp2_with (first
                | ((with_reducible show wpList _ _ _ (⟨some 76, _, _, _, _, _⟩ :: _) _ _); refine wp_str _ rfl (.tmp 75) rfl _ _ 1 1 u1 rfl (by rw [HU.out.1]; exact Bs.one' wr (q : Int) (UInt8.ofNat q) HU.out.2.2.1) ?_; simp only [Act.put, List.setIfInBounds_toArray, List.set_cons_zero, List.set_cons_succ])
                | ((with_reducible show wpList _ _ _ (⟨some 86, _, _, _, _, _⟩ :: _) _ _); refine wp_str _ rfl (.tmp 85) rfl _ _ 1 1 u2 rfl (hb2 _) ?_; simp only [Act.put, List.setIfInBounds_toArray, List.set_cons_zero, List.set_cons_succ]))
              go_roundw
              case rel => exact ⟨y + 1, by omega, by go_num, by rw [HTT.out], (BR.alloc _).alloc _, (bR.alloc bR.size _).alloc (by have := bR.size; simp; omega) _⟩
              case measure => simp [intOf]; omega
            · have hn115 : mb ≠ 115 := fun h => hw (l3.1 h)
              have he115 : ((mb : Int) == 115) = false := by simp; omega
              have hsm : smW b m = [UInt8.ofNat r] := by rw [smW, if_neg hw, hr, Nat.mod_eq_of_lt (by omega)]
              have s1 := str_append T1 [UInt8.ofNat r]
              obtain ⟨T2, hT2⟩ : ∃ T, T = T1 ++ [UInt8.ofNat r] := ⟨_, rfl⟩
              have hTT : T2 = S3 ++ nmW bl ns (y + 1) := by rw [hT2, hT1, hnw, hsm]; simp
              have zs1 : ¬ 9223372036854775807 < (str T1).size + (str [UInt8.ofNat r]).size := by rw [str_size, str_size]; simp; omega
              rw [← hT2] at s1
              obtain ⟨u1, hu1⟩ : ∃ u, u = [UInt8.ofNat r] := ⟨_, rfl⟩
              rw [← hu1] at s1 zs1
              have HTT := Lib.hid hTT
              have HU := Lib.hid (And.intro hu1 hr2)
              clear hT1 hT2 hTT hnw hsm hu1 hr l3 hn115 hb hmb hm1 hr2
              go_wp2_with (first
                | ((with_reducible show wpList _ _ _ (⟨some 86, _, _, _, _, _⟩ :: _) _ _); refine wp_str _ rfl (.tmp 85) rfl _ _ 1 1 u1 rfl (by rw [HU.out.1]; exact Bs.one' _ (r : Int) (UInt8.ofNat r) HU.out.2) ?_; simp only [Act.put, List.setIfInBounds_toArray, List.set_cons_zero, List.set_cons_succ]))
              go_roundw
              case rel => exact ⟨y + 1, by omega, by go_num, by rw [HTT.out], BR.alloc _, bR.alloc bR.size _⟩
              case measure => simp [intOf]; omega
          · obtain rfl : y = Lt.length := by omega
            have hfin : S3 ++ nmW bl ns Lt.length = R := by
              rw [HEB.out, HS3.out, HS12.out.2, HS12.out.1]
            rw [hfin]
            go_wp2_with fail
            go_ret
            exact ⟨rfl, bR⟩

set_option maxHeartbeats 1000000 in
theorem refEncode_any (e : Ev) (he : EvOk e) (hs : Small e) (hsz : ∀ t ∈ e.ts, t.length ≤ 1000000) (w : World) :
    Calls Tryd.prog 14 #[.agg (evc e).toArray] w fun r w' => r = .returned (.tuple #[.string (str (encF e)), .int .i64 (encE e)]) ∧ Below w.heap.size w w' := by
  have RA := fun W => refRight_any e he hsz W
  have z24 := size24' he
  by_cases hr : rightE e = true
  · have WA := fun W => refWrite_any e he hs hr W
    rw [hr] at RA
    rw [encF, if_pos hr, encE, if_pos hr]
    obtain ⟨B, hB⟩ : ∃ B, B = encB e := ⟨_, rfl⟩
    rw [← hB] at WA ⊢
    obtain ⟨C, hC⟩ : ∃ C, C = evc e := ⟨_, rfl⟩
    rw [← hC] at z24 RA WA ⊢
    have HRA := Lib.hid RA
    have HWA := Lib.hid WA
    clear hB hC hr RA WA
    go_enter Tryd.func14, Tryd.ntmps14
    go_wp2_with (first
      | ((with_reducible show wpList _ _ _ (⟨some 1, _, _, _, _, _⟩ :: _) _ _); refine wp_box _ rfl 24 (.tmp 0) rfl C rfl ?_; intro w1 g1 hB1 hf1; simp only [Act.put, List.setIfInBounds_toArray, List.set_cons_zero, List.set_cons_succ])
      | ((with_reducible show wpList _ _ _ (⟨some 5, _, _, _, _, _⟩ :: _) _ _); refine wp_getG _ (by rfl) 24 (.tmp 1) rfl g1 0 C _ rfl hB1.whole Tryd.underlying24 rfl z24 ?_; simp only [Act.put, List.setIfInBounds_toArray, List.set_cons_zero, List.set_cons_succ]))
    refine (HRA.out w1).mono ?_
    rintro r w2 ⟨rfl, e2⟩
    have D2 := hB1.kept e2
    have b2 := hf1.below.trans (e2.mono hf1.below.size)
    go_wp2_with (first
      | ((with_reducible show wpList _ _ _ (⟨some 9, _, _, _, _, _⟩ :: _) _ _); refine wp_getG _ (by rfl) 24 (.tmp 1) rfl g1 0 C _ rfl D2.whole Tryd.underlying24 rfl z24 ?_; simp only [Act.put, List.setIfInBounds_toArray, List.set_cons_zero, List.set_cons_succ]))
    refine (HWA.out w2).mono ?_
    rintro r w3 ⟨rfl, e3⟩
    go_wp2_with fail
    go_ret2
    exact ⟨rfl, b2.trans (e3.mono b2.size)⟩
  · have hrf : rightE e = false := by simpa using hr
    rw [hrf] at RA
    rw [encF, if_neg hr, encE, if_neg hr]
    obtain ⟨C, hC⟩ : ∃ C, C = evc e := ⟨_, rfl⟩
    rw [← hC] at z24 RA ⊢
    have HRA := Lib.hid RA
    clear hC hr hrf RA
    go_enter Tryd.func14, Tryd.ntmps14
    go_wp2_with (first
      | ((with_reducible show wpList _ _ _ (⟨some 1, _, _, _, _, _⟩ :: _) _ _); refine wp_box _ rfl 24 (.tmp 0) rfl C rfl ?_; intro w1 g1 hB1 hf1; simp only [Act.put, List.setIfInBounds_toArray, List.set_cons_zero, List.set_cons_succ])
      | ((with_reducible show wpList _ _ _ (⟨some 5, _, _, _, _, _⟩ :: _) _ _); refine wp_getG _ (by rfl) 24 (.tmp 1) rfl g1 0 C _ rfl hB1.whole Tryd.underlying24 rfl z24 ?_; simp only [Act.put, List.setIfInBounds_toArray, List.set_cons_zero, List.set_cons_succ]))
    refine (HRA.out w1).mono ?_
    rintro r w2 ⟨rfl, e2⟩
    go_wp2_with fail
    go_ret2
    exact ⟨rfl, hf1.below.trans (e2.mono hf1.below.size)⟩
end Go.Proofs.YtjgcodnabgkjoaaDoor
