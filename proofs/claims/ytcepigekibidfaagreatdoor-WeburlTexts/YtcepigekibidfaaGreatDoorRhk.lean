/-
  What transeptref07.row answers; nothing that was there turns. Condition: texts of at most 100000000 bytes.
-/
import Derived.Test.YtcepigekibidfaaGreatDoorRhj
namespace Go.Proofs.YtcepigekibidfaaGreatDoor
open Go.RowKit

theorem val_dot (b : Nat) (hb : b ≤ 16) : ∀ (l : List UInt8) (n : Nat), (46 : UInt8) ∈ l → val b n l = none
  | [], _, h => by cases h
  | c :: r, n, h => by
    rw [val]
    rcases List.mem_cons.1 h with rfl | h
    · rw [if_neg (by have : dig 46 = 16 := by decide
                     omega)]
    · split
      · exact val_dot b hb r _ h
      · rfl
theorem pc_dot (p : List UInt8) (h : p.contains 46 = true) : pc p = none := by
  unfold pc
  split
  · rfl
  · exact val_dot 16 (by decide) p 0 (List.contains_iff_mem.1 h)
theorem four_nodot (p : List UInt8) (h : ¬ p.contains 46 = true) : four p = none := by
  unfold four
  rw [spl_none 46 p (fun hm => h (List.contains_iff_mem.2 hm)), if_neg (by show ¬ (1 = 4); decide)]
/-- Where the document's row stands. -/
def Rw (e : Bool) (ps : List (List UInt8)) (i : Nat) (L : List Nat) : Prop := (i < ps.length ∧ L.length = i ∧ pcl e ps = (pcl e (ps.drop i)).map (L ++ ·)) ∨ (i = ps.length ∧ pcl e ps = some L ∧ L.length ≤ i + 1)
section
variable {e : Bool} {ps : List (List UInt8)} {i : Nat} {L : List Nat} {p : List UInt8}
theorem Rw.start : Rw e ps 0 [] := by
  cases ps with
  | nil => exact .inr ⟨rfl, rfl, by simp⟩
  | cons a r => exact .inl ⟨by simp, rfl, by simp⟩
theorem rw_drop (hp : ps[i]? = some p) : ps.drop i = p :: ps.drop (i + 1) := by
  obtain ⟨h, rfl⟩ := List.getElem?_eq_some_iff.1 hp
  exact List.drop_eq_getElem_cons h
theorem Rw.now (h : Rw e ps i L) (hi : i < ps.length) : L.length = i ∧ pcl e ps = (pcl e (ps.drop i)).map (L ++ ·) := by
  rcases h with ⟨_, h1, h2⟩ | ⟨h1, _⟩
  · exact ⟨h1, h2⟩
  · omega
theorem Rw.yes (h : Rw e ps i L) (hp : ps[i]? = some p) {n : Nat} (hn : pc p = some n) : Rw e ps (i + 1) (L ++ [n]) := by
  have hi := (List.getElem?_eq_some_iff.1 hp).1
  obtain ⟨h1, h2⟩ := h.now hi
  rw [rw_drop hp] at h2
  by_cases hl : i + 1 < ps.length
  · obtain ⟨q, r, e2⟩ : ∃ q r, ps.drop (i + 1) = q :: r := ⟨_, _, List.drop_eq_getElem_cons hl⟩
    refine .inl ⟨hl, by rw [List.length_append, h1]; rfl, ?_⟩
    rw [h2, e2, pcl, hn]
    cases pcl e (q :: r) <;> simp
  · have e2 : ps.drop (i + 1) = [] := List.drop_eq_nil_of_le (by omega)
    refine .inr ⟨by omega, ?_, by rw [List.length_append, h1]; simp⟩
    rw [h2, e2, pcl]
    have hd : ¬ (e && p.contains 46) = true := by
      intro hh
      rw [Bool.and_eq_true] at hh
      rw [pc_dot p hh.2] at hn
      cases hn
    rw [if_neg hd, hn]
    rfl
theorem Rw.bad (h : Rw e ps i L) (hp : ps[i]? = some p) (hn : pc p = none) (hl : e = false ∨ i + 1 < ps.length) : pcl e ps = none := by
  have hi := (List.getElem?_eq_some_iff.1 hp).1
  obtain ⟨_, h2⟩ := h.now hi
  rw [rw_drop hp] at h2
  by_cases hl2 : i + 1 < ps.length
  · obtain ⟨q, r, e2⟩ : ∃ q r, ps.drop (i + 1) = q :: r := ⟨_, _, List.drop_eq_getElem_cons hl2⟩
    rw [h2, e2, pcl, hn]
    rfl
  · have e2 : ps.drop (i + 1) = [] := List.drop_eq_nil_of_le (by omega)
    rcases hl with rfl | hl
    · rw [h2, e2, pcl, hn]
      rfl
    · omega
theorem Rw.last (h : Rw true ps i L) (hp : ps[i]? = some p) (hn : pc p = none) (hl : ¬ i + 1 < ps.length) : pcl true ps = (four p).map (L ++ ·) := by
  have hi := (List.getElem?_eq_some_iff.1 hp).1
  obtain ⟨_, h2⟩ := h.now hi
  have e2 : ps.drop (i + 1) = [] := List.drop_eq_nil_of_le (by omega)
  rw [rw_drop hp, e2, pcl] at h2
  rw [h2]
  by_cases hd : p.contains 46 = true
  · rw [if_pos (by rw [hd]; rfl)]
  · rw [if_neg (by simpa using hd), hn, four_nodot p hd]
    rfl
end
/-- What row leaves. -/
def RowR (R : Option (List Nat)) (w : World) (e : Ending) (w' : World) : Prop :=
  (match R with
  | none => e = .returned (.tuple #[.slice none 0 0, .bool false])
  | some xs => ∃ A c, e = .returned (.tuple #[.slice A xs.length c, .bool true]) ∧ Hs w' w'.heap.size A xs.length xs ∧ ∀ b off, A = some ⟨b, off, none⟩ → w.heap.size ≤ b) ∧ Below w.heap.size w w'
set_option maxHeartbeats 8000000 in
set_option maxRecDepth 100000 in
theorem rrow_any (ps : List (List UInt8)) (e : Bool) (g c : Nat) (w : World) (hps : Ps w g ps) (hn : ps.length ≤ 100000001) (hl : ∀ p ∈ ps, p.length ≤ 100000000) : Calls Tryz.prog 74 #[.slice (some ⟨g, 0, none⟩) ps.length c, .bool e] w (RowR (pcl e ps) w) := by
  have hst : Hid (Rw e ps 0 []) := Rw.start
  have hyes : Hid (∀ i L p n, Rw e ps i L → ps[i]? = some p → pc p = some n → Rw e ps (i + 1) (L ++ [n])) := fun i L p n h hp hn => h.yes hp hn
  have hbad : Hid (∀ i L p, Rw e ps i L → ps[i]? = some p → pc p = none → e = false ∨ i + 1 < ps.length → pcl e ps = none) := fun i L p h => h.bad
  have hlast : Hid (∀ i L p, Rw e ps i L → ps[i]? = some p → pc p = none → e = true → ¬ i + 1 < ps.length → pcl e ps = (four p).map (L ++ ·)) := fun i L p h hp hn he hl => by subst he; exact h.last hp hn hl
  have hnow : Hid (∀ i L, Rw e ps i L → i < ps.length → L.length = i) := fun i L h hi => (h.now hi).1
  have hend : Hid (∀ i L, Rw e ps i L → ¬ i < ps.length → pcl e ps = some L) := fun i L h hi => by
    rcases h with ⟨h1, _⟩ | ⟨_, h2, _⟩
    · exact absurd h1 hi
    · exact h2
  have hile : Hid (∀ i L, Rw e ps i L → i ≤ ps.length) := fun i L h => by
    rcases h with ⟨h1, _⟩ | ⟨h1, _⟩ <;> omega
  have hfin : Hid (∀ i L, i + 1 = ps.length → pcl e ps = some L → L.length ≤ i + 2 → Rw e ps (i + 1) L) := fun i L h1 h2 h3 => .inr ⟨h1, h2, h3⟩
  obtain ⟨R, hR⟩ : ∃ R, R = pcl e ps := ⟨_, rfl⟩
  rw [← hR] at hbad hlast hend hfin ⊢
  have hget : Hid (∀ i, i < ps.length → ∃ p, ps[i]? = some p ∧ p ∈ ps) := fun i hi => ⟨_, List.getElem?_eq_getElem hi, List.getElem_mem hi⟩
  obtain ⟨N, hN⟩ : ∃ N, N = ps.length := ⟨_, rfl⟩
  rw [← hN] at hbad hlast hnow hend hile hget hfin hn ⊢
  have HPs := Lib.hid hps
  have HL := Lib.hid hl
  have HB : Hid (R = none → ∀ w', Kept w w' → RowR R w (.returned (.tuple #[.slice none 0 0, .bool false])) w') := fun h w' hk => by rw [h]; exact ⟨rfl, hk⟩
  clear hR hN hps hl
  go_enter Tryz.func74, Tryz.ntmps74
  go_wp2_with fail
  have hown0 : OwnH (w.alloc (.cells #[] 61)) w.heap.size (.slice (some ⟨w.heap.size, 0, none⟩) 0 0) 0 [] := ownH_made w w.heap.size (Nat.le_refl _)
  have hHs0 : Hid (Hs (w.alloc (.cells #[] 61)) (w.alloc (.cells #[] 61)).heap.size (some ⟨w.heap.size, 0, none⟩) 0 []) := ⟨rfl, fun h => absurd h (Nat.lt_irrefl _)⟩
  go_loopw [7, 6] (fun i v wr => ∃ (i0 : Nat) (A : Option Addr) (n c0 : Nat) (L : List Nat), i = .int .i64 (i0 : Int) ∧ v = .slice A n c0 ∧ OwnH wr w.heap.size (.slice A n c0) n L ∧ Hs wr wr.heap.size A n L ∧ Kept w wr ∧ Rw e ps i0 L) (fun i _ _ => N - (intOf i).toNat)
  case atStart => exact ⟨0, _, 0, 0, [], rfl, rfl, hown0, hHs0.out, (Kept.refl w).alloc _, hst.out⟩
  case round =>
    obtain ⟨i0, A, n0, c0, L, rfl, rfl, hown, hHs, hkp, hrw⟩ := hrel
    clear hown0 hHs0 hst
    have HOwn := Lib.hid hown
    have HHs := Lib.hid hHs
    have hLl := Lib.hid hown.len
    have HRw := Lib.hid hrw
    have hbs : Hid (w.heap.size ≤ wr.heap.size) := hkp.size
    have HK := Lib.hid hkp
    have hile1 := hile.out i0 L hrw
    have HPs2 : Hid (Ps wr g ps) := HPs.out.kept8 hkp
    clear hown hHs hkp hrw
    by_cases hlt : i0 < N
    · have hiN : (i0 : Int) < (N : Int) := by omega
      obtain ⟨p, hp, hpm⟩ := hget.out i0 hlt
      have hcell := HPs2.out.at_ hp
      have HM : Hid (∀ W, Calls Tryz.prog 106 #[.string (str p)] W fun e w' => ∃ v : Nat, e = .returned (.tuple #[.int .u16 (v : Int), .bool (pc p).isSome]) ∧ (∀ n, pc p = some n → v = n) ∧ w' = W) := fun W => rpiece_any p W (HL.out p hpm)
      have hn0' : n0 = i0 := by rw [← hLl.out]; exact hnow.out i0 L HRw.out hlt
      have hn0b : n0 ≤ 100000001 := by omega
      have hn0 : Hid (n0 = i0) := hn0'
      clear hn0'
      have hy := hyes.out i0 L p
      have hb := hbad.out i0 L p HRw.out hp
      have hla := hlast.out i0 L p HRw.out hp
      have HF : Hid (∀ W, Calls Tryz.prog 107 #[.string (str p)] W (FourR (four p) W)) := fun W => rfour_any p W (HL.out p hpm)
      have HP := Lib.hid hp
      clear hp hpm
      cases ho : pc p with
      | some n =>
        rw [ho] at HM
        have HM2 : Hid (∀ W, Calls Tryz.prog 106 #[.string (str p)] W fun e w' => e = .returned (.tuple #[.int .u16 (n : Int), .bool true]) ∧ w' = W) := fun W => (HM.out W).mono fun e w' hh => by
          obtain ⟨v, h1, h2, h3⟩ := hh
          rw [h2 n rfl] at h1
          exact ⟨h1, h3⟩
        have HY : Hid (Rw e ps (i0 + 1) (L ++ [n])) := hy n HRw.out HP.out ho
        have Hlit : Hid (Hs (wr.alloc (.cells #[.int .u16 (n : Int)] 61)) (wr.heap.size + 1) (some ⟨wr.heap.size, 0, none⟩) 1 [n]) := Hs.lit wr [n] _ rfl 1 rfl
        clear HM hy hb hla ho
        go_wp2_with (first
          | (go_at_call 106; (with_reducible refine (HM2.out _).mono ?_); rintro e w3 ⟨rfl, rfl⟩)
          | ((with_reducible show wpList _ _ _ (⟨some 30, .call _, _, _, _, _⟩ :: _) _ _); refine wp_appH _ rfl (.tmp 27) (.tmp 29) rfl w.heap.size _ n0 L rfl (HOwn.out.alloc _) _ _ 1 1 [n] rfl Hlit.out (by omega) (by simp; have := hbs.out; omega) (n0 + 1) (L ++ [n]) rfl rfl ?_; intro A4 c4 w4 hc4 hHs4 hown4 hb4 hkb4; simp only [Act.put, List.setIfInBounds_toArray, List.set_cons_zero, List.set_cons_succ]))
        go_roundw
        case rel => exact ⟨i0 + 1, A4, n0 + 1, c4, L ++ [n], by go_num, rfl, hown4, hHs4, (HK.out.alloc _).base hb4, HY.out⟩
        case measure => simp [intOf]; omega
      | none =>
        rw [ho] at HM
        have HM2 : Hid (∀ W, Calls Tryz.prog 106 #[.string (str p)] W fun e w' => ∃ v : Nat, e = .returned (.tuple #[.int .u16 (v : Int), .bool false]) ∧ w' = W) := fun W => (HM.out W).mono fun e w' hh => by
          obtain ⟨v, h1, _, h3⟩ := hh
          exact ⟨v, h1, h3⟩
        by_cases hla1 : i0 + 1 < N
        · have hla2 : (i0 : Int) + 1 < (N : Int) := by omega
          have HX := Lib.hid (HB.out (hb ho (.inr hla1)) wr HK.out)
          clear HM hy hb hla ho hla1
          cases e
          all_goals
            go_wp2_with (go_at_call 106; (with_reducible refine (HM2.out _).mono ?_); rintro e w3 ⟨v, rfl, rfl⟩)
            go_ret2
            exact HX.out
        · have hla2 : ¬ (i0 : Int) + 1 < (N : Int) := by omega
          cases he : e with
          | false =>
            have HX := Lib.hid (HB.out (hb ho (.inl he)) wr HK.out)
            clear HM hy hb hla ho hla1
            subst he
            go_wp2_with (go_at_call 106; (with_reducible refine (HM2.out _).mono ?_); rintro e w3 ⟨v, rfl, rfl⟩)
            go_ret2
            exact HX.out
          | true =>
            have hR := hla ho he hla1
            cases hf : four p with
            | none =>
              rw [hf] at hR HF
              have HX := Lib.hid (HB.out hR wr HK.out)
              have HF2 : Hid (∀ W, Calls Tryz.prog 107 #[.string (str p)] W fun e w' => e = .returned (.tuple #[.slice none 0 0, .bool false]) ∧ Below W.heap.size W w') := HF.out
              have HB2 : Hid (∀ w', Kept w w' → RowR R w (.returned (.tuple #[.slice none 0 0, .bool false])) w') := fun w' hk => HB.out hR w' hk
              clear HM hy hb hla ho hla1 hR HX hf HF
              subst he
              go_wp2_with (first
                | (go_at_call 106; (with_reducible refine (HM2.out _).mono ?_); rintro e w3 ⟨v, rfl, rfl⟩)
                | (go_at_call 107; (with_reducible refine (HF2.out _).mono ?_); (rintro e w4 ⟨rfl, hb4⟩)))
              go_ret2
              exact HB2.out w4 (HK.out.step hb4)
            | some xs =>
              rw [hf] at hR HF
              have HF2 : Hid (∀ W, Calls Tryz.prog 107 #[.string (str p)] W fun e w' => ∃ A c, e = .returned (.tuple #[.slice A 2 c, .bool true]) ∧ Hs w' w'.heap.size A 2 xs ∧ Below W.heap.size W w') := fun W => (HF.out W).mono fun e w' hh => by
                obtain ⟨⟨A, c, h1, h2⟩, h3⟩ := hh
                exact ⟨A, c, h1, h2, h3⟩
              have hi1 : Hid (i0 + 1 = N) := by show _ = _; omega
              have HRR : Hid (R = some (L ++ xs)) := hR
              clear HM hy hb hla ho hla1 hR hf HF
              subst he
              go_wp2_with (first
                | (go_at_call 106; (with_reducible refine (HM2.out _).mono ?_); rintro e w3 ⟨v, rfl, rfl⟩)
                | (go_at_call 107; (with_reducible refine (HF2.out _).mono ?_); (rintro e w4 ⟨A2, c2, rfl, hH2, hb4⟩; have hown5 := HOwn.out.kept hb4; have HH2 := Lib.hid hH2; have HO5 := Lib.hid hown5; have hK4 : Hid (Kept w w4) := HK.out.step hb4; clear hH2 hown5 hb4))
                | ((with_reducible show wpList _ _ _ (⟨some 52, .call _, _, _, _, _⟩ :: _) _ _); refine wp_appH _ rfl (.tmp 50) (.tmp 51) rfl w.heap.size _ n0 L rfl HO5.out _ _ 2 _ xs rfl HH2.out (by omega) hK4.out.size (n0 + 2) (L ++ xs) rfl rfl ?_; intro A6 c6 w6 hc6 hHs6 hown6 hb6 hkb6; simp only [Act.put, List.setIfInBounds_toArray, List.set_cons_zero, List.set_cons_succ]))
              go_roundw
              case rel =>
                have hlx : (L ++ xs).length = n0 + 2 := hown6.len
                refine ⟨i0 + 1, A6, n0 + 2, c6, L ++ xs, by go_num, rfl, hown6, hHs6, hK4.out.base hb6, ?_⟩
                exact hfin.out i0 (L ++ xs) hi1.out HRR.out (by rw [hlx, hn0.out]; exact Nat.le_refl _)
              case measure => have := hi1.out; simp [intOf]; omega
    · have hiN : ¬ (i0 : Int) < (N : Int) := by omega
      have HX := Lib.hid (hend.out i0 L HRw.out hlt)
      clear hlt
      go_wp2_with fail
      go_ret2
      rw [HX.out]
      refine ⟨⟨A, c0, ?_, ?_, fun b off hA => HOwn.out.base_le b (by rw [hA]; rfl)⟩, HK.out⟩
      · rw [hLl.out]; rfl
      · rw [hLl.out]; exact HHs.out
end Go.Proofs.YtcepigekibidfaaGreatDoor
