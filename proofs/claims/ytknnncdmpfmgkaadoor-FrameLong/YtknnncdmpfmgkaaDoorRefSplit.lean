/-
  What the document's answers transeptref04.agree, split, Split answer; nothing that was in memory turns. Condition: texts of at most 1000000 bytes.
-/
import Derived.Test.YtknnncdmpfmgkaaDoorRefJoin
import Derived.Test.YtknnncdmpfmgkaaDoorGrow
namespace Go.Proofs.YtknnncdmpfmgkaaDoor
open Go.RowKit

/-- How many bytes of s the bytes b begin with. -/
def agr (s b : List UInt8) : Nat := (matchS b s 0).1
theorem matchS_fst (w : Nat) : ∀ (b s : List UInt8), (matchS b s w).1 = agr s b
  | b, [] => by simp [agr, matchS]
  | [], d :: s => by simp [agr, matchS]
  | c :: r, d :: s => by
    have := matchS_fst w r s
    unfold agr at *
    rw [matchS, matchS]
    split
    · simp [this]
    · rfl
theorem matchS_snd (w : Nat) : ∀ (b s : List UInt8), (matchS b s w).2 = if agr s b = s.length then 0 else if agr s b = b.length then 2 else w
  | b, [] => by simp [agr, matchS]
  | [], d :: s => by simp [agr, matchS]
  | c :: r, d :: s => by
    have := matchS_snd w r s
    unfold agr at *
    rw [matchS, matchS]
    by_cases h : c = d
    · rw [if_pos h, if_pos h]
      simp only [List.length_cons, Nat.add_right_cancel_iff]
      exact this
    · rw [if_neg h, if_neg h]
      simp
theorem agr_le (s b : List UInt8) : agr s b ≤ s.length ∧ agr s b ≤ b.length := ⟨(matchS_le 0 b s).2, (matchS_le 0 b s).1⟩
theorem agr_drop (s b : List UInt8) (k : Nat) (h : s.take k = b.take k) (hk : k ≤ s.length) (hb : k ≤ b.length) : agr s b = k + agr (s.drop k) (b.drop k) := by
  unfold agr
  rw [matchS_drop s b 0 k h hk hb]

theorem str_get (l : List UInt8) {k : Nat} (hk : k < l.length) (h : k < (str l).size) : ((str l)[k]'h).toNat = (l.getD k 0).toNat := by
  simp [str, List.getD, List.getElem?_eq_getElem hk, ByteArray.getElem_eq_getElem_data]
theorem getD_at {l : List UInt8} {k : Nat} (hk : k < l.length) : l[k] = l.getD k 0 := by
  simp [List.getD, List.getElem?_eq_getElem hk]

set_option maxHeartbeats 1000000 in
set_option maxRecDepth 100000 in
theorem agree_any (s b : List UInt8) (w : World) (hs : s.length ≤ 1000000) (hb : b.length ≤ 1000000) :
    Calls Tryd.prog 33 #[.string (str s), .string (str b)] w fun e w' => e = .returned (.int .i64 (agr s b)) ∧ Below w.heap.size w w' := by
  have z1 := str_size s
  have z2 := str_size b
  go_enter Tryd.func33, Tryd.ntmps33
  go_wp2_with fail
  go_loopw [5] (fun i wr => ∃ k : Nat, k ≤ s.length ∧ k ≤ b.length ∧ i = .int .i64 k ∧ Hid (s.take k = b.take k) ∧ Below w.heap.size w wr) (fun i _ => s.length - (intOf i).toNat)
  case atStart => exact ⟨0, by omega, by omega, rfl, Lib.hid (by simp), Below.refl _ _⟩
  case round =>
    obtain ⟨k, hk1, hk2, rfl, HT, hbel⟩ := hrel
    have HA := Lib.hid (agr_drop s b k HT.out hk1 hk2)
    by_cases h1 : k < s.length
    · by_cases h2 : k < b.length
      · obtain ⟨x, hx⟩ : ∃ x, s.getD k 0 = x := ⟨_, rfl⟩
        obtain ⟨y, hy⟩ : ∃ y, b.getD k 0 = y := ⟨_, rfl⟩
        have g1 : ∀ h, ((str s)[k]'h).toNat = x.toNat := fun h => by rw [str_get s h1, hx]
        have g2 : ∀ h, ((str b)[k]'h).toNat = y.toNat := fun h => by rw [str_get b h2, hy]
        have HX := Lib.hid hx
        have HY := Lib.hid hy
        have b1 := UInt8.toNat_lt x
        have b2 := UInt8.toNat_lt y
        have t1 : decide (k < s.length) = true := by simp; omega
        have t2 : decide (k < b.length) = true := by simp; omega
        clear hx hy
        by_cases hxy : x = y
        · subst hxy
          go_wp2_with fail
          go_quiet (fail)
          go_wp2_with fail
          go_roundw
          case rel =>
            refine ⟨k + 1, by omega, by omega, by go_num, Lib.hid ?_, below_drewN hbel _⟩
            rw [List.take_succ_eq_append_getElem h1, List.take_succ_eq_append_getElem h2, HT.out, getD_at h1, getD_at h2, HX.out, HY.out]
          case measure => simp [intOf]; omega
        · have HE : Hid (agr s b = k) := by
            show agr s b = k
            rw [HA.out, List.drop_eq_getElem_cons h1, List.drop_eq_getElem_cons h2, getD_at h1, getD_at h2, HX.out, HY.out, agr, matchS, if_neg (fun e => hxy e.symm)]
            rfl
          have hd : ((x.toNat : Int) == (y.toNat : Int)) = false := by
            rw [beq_eq_false_iff_ne]
            intro e
            exact hxy (UInt8.toNat_inj.1 (by omega))
          have hd' : (x.toNat == y.toNat) = false := by
            rw [beq_eq_false_iff_ne]
            intro e
            exact hxy (UInt8.toNat_inj.1 e)
          clear hxy
          generalize x.toNat = X at *
          generalize y.toNat = Y at *
          go_wp2_with fail
          go_quiet (fail)
          go_wp2_with fail
          go_ret
          exact ⟨by rw [HE.out]; rfl, below_drewN hbel _⟩
      · have HE : Hid (agr s b = k) := by
          show agr s b = k
          rw [HA.out, List.drop_eq_getElem_cons h1, List.drop_of_length_le (l := b) (by omega), agr, matchS]
          rfl
        have hd : decide (k < b.length) = false := by simp; omega
        have hd0 : decide (k < s.length) = true := by simp; omega
        go_wp2_with fail
        go_quiet (fail)
        go_wp2_with fail
        go_ret
        exact ⟨by rw [HE.out]; rfl, below_drewN hbel _⟩
    · have HE : Hid (agr s b = k) := by
        show agr s b = k
        rw [HA.out, List.drop_of_length_le (l := s) (by omega), agr, matchS]
        rfl
      have hd : decide (k < s.length) = false := by simp; omega
      go_wp2_with fail
      go_quiet (fail)
      go_wp2_with fail
      go_ret
      exact ⟨by rw [HE.out]; rfl, below_drewN hbel _⟩

theorem aboveB_20000 (N : Nat) : (aboveB N 20000 = true) ↔ 20000 < N := by
  simp [aboveB]
  omega
/-- A frame by the document's way of reading texts. -/
theorem takeS_text (l : List UInt8) : takeS l = if (textS l 20000).2.2 ≠ 0 then ([], (textS l 20000).2.1, (textS l 20000).2.2)
    else ((textS l 20000).1, (textS l 20000).2.1 + (matchS (l.drop (textS l 20000).2.1) (tl (textS l 20000).1) 4).1, (matchS (l.drop (textS l 20000).2.1) (tl (textS l 20000).1) 4).2) := by
  have hk := getS_le l
  unfold takeS textS
  by_cases h1 : (getS l).2.2 ≠ 0
  · rw [if_pos h1, if_pos h1, if_pos h1]
  · rw [if_neg h1, if_neg h1]
    by_cases h2 : 20000 < (getS l).1
    · rw [if_pos h2, if_pos ((aboveB_20000 _).2 h2)]
      simp
    · rw [if_neg h2, if_neg (fun h => h2 ((aboveB_20000 _).1 h))]
      by_cases h3 : l.length < (getS l).2.1 + (getS l).1
      · rw [if_pos h3, if_pos (show l.length - (getS l).2.1 < (getS l).1 by omega)]
        simp
      · rw [if_neg h3, if_neg (show ¬ l.length - (getS l).2.1 < (getS l).1 by omega)]
        simp

theorem textS_len (l : List UInt8) (m : Int) : (textS l m).1.length ≤ l.length := by
  unfold textS
  split
  · simp
  · split
    · simp
    · split
      · simp
      · simp; omega

def SplitStr (w : World) (r : List (List UInt8) × Nat × Nat) (e : Ending) (w' : World) : Prop :=
  ∃ v, e = .returned (.tuple #[v, .int .i64 r.2.1, .int .i64 r.2.2]) ∧ Strs w' w.heap.size v r.1 ∧ Below w.heap.size w w'

/-- Where the document's loop stands. -/
def At24 (b : List UInt8) (outs : List (List UInt8)) (a : Nat) : Prop :=
  splitS b = (outs ++ (runQ outs.length (seqS (b.drop a))).1, a + (runQ outs.length (seqS (b.drop a))).2.1, (runQ outs.length (seqS (b.drop a))).2.2)

set_option maxHeartbeats 2000000 in
set_option maxRecDepth 100000 in
theorem refSplit_any (b : List UInt8) (w : World) (hb : b.length ≤ 1000000) : Calls Tryd.prog 24 #[.string (str b)] w (SplitStr w (splitS b)) := by
  have hsz := str_size b
  have AG := fun W => agree_any op4 b W (by decide) hb
  have ag1 := agr_le op4 b
  have m1 := matchS_fst 3 b op4
  have m2 := matchS_snd 3 b op4
  rw [show op4.length = 4 from rfl] at ag1 m2
  have HSP : Hid (splitS b = if (matchS b op4 3).2 ≠ 0 then ([], (matchS b op4 3).1, (matchS b op4 3).2) else ((runQ 0 (seqS (b.drop 4))).1, 4 + (runQ 0 (seqS (b.drop 4))).2.1, (runQ 0 (seqS (b.drop 4))).2.2)) := rfl
  generalize agr op4 b = g at *
  have HM1 := Lib.hid m1
  have HM2 := Lib.hid m2
  clear m1 m2
  by_cases h4 : g < 4
  · by_cases h5 : g < b.length
    · have HE : Hid (splitS b = ([], g, 3)) := by
        show splitS b = _
        rw [HSP.out, HM2.out, HM1.out, if_neg (by omega : ¬ g = 4), if_neg (by omega : ¬ g = b.length), if_pos (by omega)]
      have hd : decide ((g : Int) < 4) = true := by simp; omega
      have hd2 : decide (g < b.length) = true := by simp; omega
      go_enter Tryd.func24, Tryd.ntmps24
      go_wp2_with fail
      refine (AG _).mono ?_
      rintro e w1 ⟨rfl, g1⟩
      go_wp2_with fail
      go_ret3
      refine ⟨_, by rw [HE.out]; rfl, ?_, ((Below.refl _ _).alloc (Nat.le_refl _) _).trans (g1.mono (by simp))⟩
      rw [HE.out]
      exact (strs_empty w w.heap.size (Nat.le_refl _)).below g1
    · have e5 : Hid (g = b.length) := by show g = b.length; omega
      have HE : Hid (splitS b = ([], g, 2)) := by
        show splitS b = _
        rw [HSP.out, HM2.out, HM1.out, if_neg (by omega : ¬ g = 4), if_pos e5.out, if_pos (by omega)]
      have hd : decide ((g : Int) < 4) = true := by simp; omega
      have hd2 : decide (g < b.length) = false := by simp; omega
      go_enter Tryd.func24, Tryd.ntmps24
      go_wp2_with fail
      refine (AG _).mono ?_
      rintro e w1 ⟨rfl, g1⟩
      go_wp2_with fail
      go_ret3
      refine ⟨_, by rw [HE.out]; rfl, ?_, ((Below.refl _ _).alloc (Nat.le_refl _) _).trans (g1.mono (by simp))⟩
      rw [HE.out]
      exact (strs_empty w w.heap.size (Nat.le_refl _)).below g1
  · have hg4 : g = 4 := by omega
    subst hg4
    have HI : Hid (At24 b [] 4) := by
      show splitS b = _
      rw [HSP.out, HM2.out, if_pos rfl, if_neg (by simp)]
      simp
    have h4b : 4 ≤ b.length := ag1.2
    clear HSP HM1 HM2 ag1 h4
    go_enter Tryd.func24, Tryd.ntmps24
    go_wp2_with fail
    refine (AG _).mono ?_
    rintro e w1 ⟨rfl, g1⟩
    have S1 : Strs w1 w.heap.size (.slice (some ⟨w.heap.size, 0, none⟩) 0 0) [] := (strs_empty w w.heap.size (Nat.le_refl _)).below g1
    have G1 : Below w.heap.size w w1 := ((Below.refl _ _).alloc (Nat.le_refl _) _).trans (g1.mono (by simp))
    clear AG g1
    go_wp2_with fail
    go_loopw [5, 7] (fun v i wr => ∃ (outs : List (List UInt8)) (a : Nat), a ≤ b.length ∧ outs.length ≤ 4096 ∧ i = .int .i64 a ∧ Strs wr w.heap.size v outs ∧ Hid (At24 b outs a) ∧ Below w.heap.size w wr) (fun _ i _ => b.length - (intOf i).toNat)
    case atStart => exact ⟨[], 4, h4b, by simp, rfl, S1, HI, G1⟩
    case round =>
      obtain ⟨outs, a, ha, ho, rfl, hst, HA, hbel⟩ := hrel
      clear S1 G1 HI
      obtain ⟨Av, cv, rfl⟩ := hst.form
      by_cases hlt : a < b.length
      · have hne : Hid (b.drop a ≠ []) := by
          show b.drop a ≠ []
          intro e
          have := congrArg List.length e
          simp at this
          omega
        have hd0 : decide (a < b.length) = true := by simp; omega
        by_cases hmany : outs.length = 4096
        · have HE : Hid (splitS b = (outs, a, 5)) := by
            show splitS b = _
            have := HA.out
            unfold At24 at this
            rw [hmany] at this
            by_cases he : (takeS (b.drop a)).2.2 = 0
            · rw [seqS_ok hne.out he, runQ, if_pos rfl] at this
              simpa using this
            · rw [seqS_bad hne.out he, runQ, if_pos rfl] at this
              simpa using this
          have hd : ((outs.length : Int) == 4096) = true := by simp; omega
          have HM := Lib.hid hmany
          clear hmany
          go_wp2_with fail
          go_ret3
          rw [HE.out]
          exact ⟨_, rfl, hst, hbel⟩
        · have hd : ((outs.length : Int) == 4096) = false := by simp; omega
          have hex : (str b).extract a b.length = str (b.drop a) := by
            have := str_cut b a (b.length - a)
            rw [show a + (b.length - a) = b.length by omega, List.take_of_length_le (by simp)] at this
            exact this
          have RT := refText_any (b.drop a) 20000 wr (by simp; omega) (by omega) (by omega)
          have hts := takeS_text (b.drop a)
          have hle := takeS_le (b.drop a)
          have htl := textS_len (b.drop a) 20000
          rw [List.length_drop] at hle htl
          obtain ⟨t1, ht1⟩ : ∃ t, (textS (b.drop a) 20000).1 = t := ⟨_, rfl⟩
          obtain ⟨k, hk⟩ : ∃ t, (textS (b.drop a) 20000).2.1 = t := ⟨_, rfl⟩
          obtain ⟨er, her⟩ : ∃ t, (textS (b.drop a) 20000).2.2 = t := ⟨_, rfl⟩
          have HG : Hid (gotText (textS (b.drop a) 20000) = .tuple #[.string (str t1), .int .i64 k, .int .i64 er]) := by show gotText _ = _; unfold gotText; rw [ht1, hk, her]
          rw [ht1, hk, her] at hts
          rw [ht1] at htl
          rw [HG.out] at RT
          have hkl : a + k ≤ b.length := by
            rw [hts] at hle
            split at hle
            · simp only at hle; omega
            · simp only at hle; omega
          have HTS := Lib.hid hts
          clear hts hle ht1 hk her HG
          go_wp2_with fail
          refine RT.mono ?_
          rintro e w2 ⟨rfl, rfl⟩
          clear RT
          by_cases he : er = 0
          · subst he
            have FO := refFour_any t1 wr (by omega)
            have hex2 : (str b).extract (a + k) b.length = str (b.drop (a + k)) := by
              have := str_cut b (a + k) (b.length - (a + k))
              rw [show a + k + (b.length - (a + k)) = b.length by omega, List.take_of_length_le (by simp)] at this
              exact this
            have e1 : (a : Int) + (k : Int) = ((a + k : Nat) : Int) := by omega
            have AG := fun W => agree_any (tl t1) (b.drop (a + k)) W (by rw [tl_len]; omega) (by simp; omega)
            have HT2 : Hid (takeS (b.drop a) = (t1, k + agr (tl t1) (b.drop (a + k)), if agr (tl t1) (b.drop (a + k)) = 4 then 0 else if agr (tl t1) (b.drop (a + k)) = b.length - (a + k) then 2 else 4)) := by
              show takeS _ = _
              rw [HTS.out, if_neg (by simp), List.drop_drop, matchS_fst, matchS_snd, tl_len, List.length_drop]
            have hag := agr_le (tl t1) (b.drop (a + k))
            rw [tl_len, List.length_drop] at hag
            generalize agr (tl t1) (b.drop (a + k)) = g at *
            obtain ⟨q, hq⟩ : ∃ q, a + k = q := ⟨_, rfl⟩
            rw [hq] at hex2 e1 AG HT2 hag hkl
            have HQ := Lib.hid hq
            clear hq HTS
            go_wp2_with fail
            refine FO.mono ?_
            rintro e w2 ⟨rfl, g2⟩
            go_wp2_with fail
            refine (AG w2).mono ?_
            rintro e w3 ⟨rfl, g3⟩
            have G3 : Below wr.heap.size wr w3 := g2.trans (g3.mono g2.size)
            clear AG FO g2 g3
            by_cases hg4 : g < 4
            · have hd3 : decide ((g : Int) < 4) = true := by simp; omega
              obtain ⟨p, hp⟩ : ∃ p, q + g = p := ⟨_, rfl⟩
              have e2 : (q : Int) + (g : Int) = (p : Int) := by omega
              have HP := Lib.hid hp
              by_cases hgl : p < b.length
              · have hd4 : decide (p < b.length) = true := by simp; omega
                have HE : Hid (splitS b = (outs, p, 4)) := by
                  show splitS b = _
                  have h1 := HA.out
                  unfold At24 at h1
                  have h2 := HT2.out
                  rw [if_neg (by omega : ¬ g = 4), if_neg (by omega : ¬ g = b.length - q)] at h2
                  rw [seqS_bad hne.out (by rw [h2]; simp), h2, runQ, if_neg (by omega), if_pos (by simp)] at h1
                  rw [h1, ← hp, ← HQ.out]
                  simp
                  omega
                clear hp
                go_wp2_with fail
                go_ret3
                rw [HE.out]
                exact ⟨_, rfl, hst.below G3, hbel.trans (G3.mono hbel.size)⟩
              · have hd4 : decide (p < b.length) = false := by simp; omega
                have HE : Hid (splitS b = (outs, b.length, 2)) := by
                  show splitS b = _
                  have h1 := HA.out
                  unfold At24 at h1
                  have h2 := HT2.out
                  rw [if_neg (by omega : ¬ g = 4), if_pos (by omega : g = b.length - q)] at h2
                  rw [seqS_bad hne.out (by rw [h2]; simp), h2, runQ, if_neg (by omega), if_pos (by simp)] at h1
                  rw [h1]
                  have := HQ.out
                  simp
                  omega
                clear hp
                go_wp2_with fail
                go_ret3
                rw [HE.out]
                exact ⟨_, rfl, hst.below G3, hbel.trans (G3.mono hbel.size)⟩
            · have hg4' : g = 4 := by omega
              subst hg4'
              have HN : Hid (At24 b (outs ++ [t1]) (q + 4)) := by
                show splitS b = _
                have h1 := HA.out
                unfold At24 at h1
                have h2 := HT2.out
                rw [if_pos rfl] at h2
                rw [seqS_ok hne.out (by rw [h2]), h2, runQ, if_neg (by omega), if_neg (by simp)] at h1
                simp only [List.drop_drop] at h1
                rw [h1]
                have e9 : a + (k + 4) = q + 4 := by have := HQ.out; omega
                rw [e9, List.length_append, List.length_singleton]
                refine Prod.ext (by simp) (Prod.ext ?_ rfl)
                simp only
                omega
              have s3 := hst.below G3
              have G3' := hbel.trans (G3.mono hbel.size)
              go_wp2_with (at_builtin; refine wp_appT _ rfl (.tmp 76) (.tmp 78) rfl w.heap.size _ outs rfl (s3.below ((Below.refl _ _).alloc (Nat.le_refl _) _)) _ 1 t1 rfl (Boxed.new w3 9 _).cell (by omega) (by have := G3'.size; simp; omega) ?_; intro A4 c4 w4 s4 _ g4)
              go_roundw
              case rel => exact ⟨outs ++ [t1], q + 4, by omega, by simp; omega, by go_num, s4, HN, (G3'.alloc G3'.size _).trans g4⟩
              case measure => simp [intOf]; have := HQ.out; omega
          · have hne0 : ((er : Int) != 0) = true := by simp; omega
            obtain ⟨p, hp⟩ : ∃ p, a + k = p := ⟨_, rfl⟩
            have HE : Hid (splitS b = (outs, p, er)) := by
              show splitS b = _
              have h1 := HA.out
              unfold At24 at h1
              have h2 := HTS.out
              rw [if_pos he] at h2
              rw [seqS_bad hne.out (by rw [h2]; exact he), h2, runQ, if_neg (by omega), if_pos (by simpa using he)] at h1
              rw [h1, ← hp]
              simp
            have e1 : (a : Int) + (k : Int) = (p : Int) := by omega
            clear he hp
            go_wp2_with fail
            go_ret3
            rw [HE.out]
            exact ⟨_, rfl, hst, hbel⟩
      · have e9 : Hid (a = b.length) := by show a = b.length; omega
        have hd0 : decide (a < b.length) = false := by simp; omega
        have HE : Hid (splitS b = (outs, a, 0)) := by
          show splitS b = _
          have h1 := HA.out
          unfold At24 at h1
          rw [List.drop_of_length_le (by rw [e9.out]; exact Nat.le_refl _), seqS_nil, runQ] at h1
          rw [h1]
          simp
        go_wp2_with fail
        go_ret3
        rw [HE.out]
        exact ⟨_, rfl, hst, hbel⟩
end Go.Proofs.YtknnncdmpfmgkaaDoor
