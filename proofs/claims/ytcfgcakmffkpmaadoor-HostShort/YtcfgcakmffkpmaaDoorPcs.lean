/-
  What host.pieces answers; nothing that was there turns. Condition: texts of at most 100000000 bytes; the library's tables.
-/
import Derived.Test.YtcfgcakmffkpmaaDoorFr
namespace Go.Proofs.YtcfgcakmffkpmaaDoor
open Go.RowKit

/-- The pieces of texts; at the end (e) four numbers may stand for two. -/
def pcl (e : Bool) : List (List UInt8) → Option (List Nat)
  | [] => some []
  | [p] => if e && p.contains 46 then four p else (pc p).map fun n => [n]
  | p :: q :: r => (pc p).bind fun n => (pcl e (q :: r)).map fun t => n :: t
def pcs (e : Bool) (l : List UInt8) : Option (List Nat) := if l = [] then some [] else pcl e (spl 58 l)
/-- What host.pieces leaves. -/
def Pco (R : Option (List Nat)) (w : World) (e : Ending) (w' : World) : Prop :=
  match R with
  | some r => ∃ A c, e = .returned (.tuple #[.slice A r.length c, .bool true]) ∧ r.length ≤ c ∧ Hs w' w'.heap.size A r.length r ∧ Below w.heap.size w w'
  | none => ∃ v, e = .returned (.tuple #[v, .bool false]) ∧ Below w.heap.size w w'
theorem pcl_more (e : Bool) (p q : List UInt8) (r : List (List UInt8)) (n : Nat) (h : pc p = some n) : pcl e (p :: q :: r) = (pcl e (q :: r)).map fun t => n :: t := by simp [pcl, h]
theorem pcl_stop (e : Bool) (p q : List UInt8) (r : List (List UInt8)) (h : pc p = none) : pcl e (p :: q :: r) = none := by simp [pcl, h]
theorem pcl_last (e : Bool) (p : List UInt8) (h : (e && p.contains 46) = false) : pcl e [p] = (pc p).map fun n => [n] := by simp only [pcl, h]; simp
theorem pcl_four (e : Bool) (p : List UInt8) (h : (e && p.contains 46) = true) : pcl e [p] = four p := by simp only [pcl, h]; simp
theorem pcl_len (e : Bool) : ∀ (ps : List (List UInt8)) (r : List Nat), pcl e ps = some r → r.length ≤ ps.length + 1 ∧ ∀ x ∈ r, x < 65536
  | [], r, h => by
    simp [pcl] at h
    subst h
    simp
  | [p], r, h => by
    rw [pcl] at h
    split at h
    · obtain ⟨h1, h2⟩ := four_two p r h
      exact ⟨by simp [h1], h2⟩
    · cases hp : pc p with
      | none => simp [hp] at h
      | some n =>
        simp [hp] at h
        subst h
        have := pc_lt p n hp
        simp [this]
  | p :: q :: r', r, h => by
    cases hp : pc p with
    | none => simp [pcl, hp] at h
    | some n =>
      rw [pcl_more e p q r' n hp] at h
      cases ht : pcl e (q :: r') with
      | none => simp [ht] at h
      | some t =>
        simp [ht] at h
        subst h
        obtain ⟨h1, h2⟩ := pcl_len e (q :: r') t ht
        have := pc_lt p n hp
        refine ⟨by simp at h1 ⊢; omega, fun x hx => ?_⟩
        rcases List.mem_cons.1 hx with hx | hx
        · omega
        · exact h2 x hx
theorem pcs_len (e : Bool) (l : List UInt8) (r : List Nat) (h : pcs e l = some r) : r.length ≤ l.length + 2 ∧ ∀ x ∈ r, x < 65536 := by
  unfold pcs at h
  split at h
  · simp at h
    subst h
    simp
  · obtain ⟨h1, h2⟩ := pcl_len e _ r h
    have h3 := spl_length 58 l
    have h4 : l.count 58 ≤ l.length := List.count_le_length
    exact ⟨by omega, h2⟩
theorem dot_any (p : List UInt8) (w : World) : Calls Tryd.prog 42 #[.string (str p), .string ⟨#[46]⟩] w fun e w' => e = .returned (.bool (p.contains 46)) ∧ w' = w := by
  have h := Tryd.strings_Contains_one (str p) 46 w
  have e : decide (0 ≤ Lib.indexByte (str p).data.toList 46) = p.contains 46 := indexByte_iff 46 p
  rw [e] at h
  exact h
theorem vstr_at (ps : List (List UInt8)) (k : Nat) (p : List UInt8) (h : ps[k]? = some p) : (ps.map vstr)[k]? = some (.string (str p)) := by
  rw [List.getElem?_map, h]
  rfl
theorem split_blk (c : UInt8) (l : List UInt8) (w : World) (hl : l.length ≤ 100000000) (hm : ∃ m, w.cell? ⟨0, 0, none⟩ = some (.int .i64 m)) :
    Calls Tryd.prog 38 #[.string (str l), .string ⟨#[c]⟩] w fun e w' => e = .returned (.slice (some ⟨w.heap.size, 0, none⟩) (spl c l).length (spl c l).length) ∧ Blk w' w.heap.size 9 ((spl c l).map vstr) ∧ Below w.heap.size w w' := by
  obtain ⟨m, hm⟩ := hm
  refine (Tryd.strings_Split (str l) ⟨#[c]⟩ m w (by rw [str_size]; omega) hm (Nat.le_refl 1)).mono ?_
  rintro e w' ⟨rfl, rfl⟩
  rw [countB_spl, splitB_spl, List.map_map]
  exact ⟨rfl, Blk.new w 9 _, (Below.refl _ _).alloc (Nat.le_refl _) _⟩
theorem Hs.empty (w : World) (B : Nat) (A : Option Addr) : Hs w B A 0 [] := ⟨rfl, fun h => absurd h (by omega)⟩

set_option maxHeartbeats 8000000 in
set_option maxRecDepth 100000 in
theorem pieces_any (l : List UInt8) (e : Bool) (w : World) (hl : l.length ≤ 10000000) (ht : Tabs w) : Calls Tryd.prog 28 #[.string (str l), .bool e] w fun x w' => Pco (pcs e l) w x w' := by
  have HT := Lib.hid ht
  clear ht
  have hem := str_empty l
  by_cases he : l = []
  · have hem2 : (str l).toList.isEmpty = true := by rw [hem]; simp [he]
    have hR : Hid (pcs e l = some []) := by show _ = _; unfold pcs; rw [if_pos he]
    clear hem he
    go_enter Tryd.func28, Tryd.ntmps28
    go_wp2_with fail
    go_ret2
    rw [hR.out]
    exact ⟨none, 0, rfl, Nat.le_refl _, Hs.empty _ _ _, Below.refl _ _⟩
  · have hem2 : (str l).toList.isEmpty = false := by rw [hem]; simp [he]
    have hR : pcs e l = pcl e (spl 58 l) := by unfold pcs; rw [if_neg he]
    have HS : Hid (∀ w, (∃ m, w.cell? ⟨0, 0, none⟩ = some (.int .i64 m)) → Calls Tryd.prog 38 #[.string (str l), .string ⟨#[58]⟩] w fun e w' => e = .returned (.slice (some ⟨w.heap.size, 0, none⟩) (spl 58 l).length (spl 58 l).length) ∧ Blk w' w.heap.size 9 ((spl 58 l).map vstr) ∧ Below w.heap.size w w') := fun w hm => split_blk 58 l w (by omega) hm
    have hmem : Hid (∀ p ∈ spl 58 l, p.length ≤ 10000000) := fun p hp => Nat.le_trans (spl_mem 58 l p hp).2.1 hl
    have hsz : (spl 58 l).length ≤ 10000001 := by rw [spl_length]; have : l.count 58 ≤ l.length := List.count_le_length; omega
    have hne := spl_ne 58 l
    obtain ⟨P, hP⟩ : ∃ P, P = spl 58 l := ⟨_, rfl⟩
    obtain ⟨R, hR'⟩ : ∃ R, R = pcs e l := ⟨_, rfl⟩
    rw [← hP] at HS hmem hsz hR hne
    rw [← hR'] at hR ⊢
    obtain ⟨k0, hk0⟩ : ∃ k, P.length = k + 1 := ⟨P.length - 1, by have := List.length_pos_iff.2 hne; omega⟩
    rw [hk0] at HS hsz
    have HK := Lib.hid hk0
    have HR0 := Lib.hid hR
    have hki0 : (k0 : Int) + 1 - 1 = (k0 : Int) := by omega
    clear hP hR' hR he hem hne hk0
    go_enter Tryd.func28, Tryd.ntmps28
    go_wp2_with (first
      | (go_at_call 38; with_reducible refine (HS.out _ (len_of (HT.out.kp ((Kept.refl w).alloc _)))).mono ?_; rintro x w3 ⟨rfl, hps, hb3⟩; have hb3 := Lib.hid hb3; have HPt := Lib.hid hps; clear hps))
    have hk3 : Kept w w3 := ((Kept.refl w).alloc _).step hb3.out
    have hown3 : OwnH w3 w.heap.size _ 0 [] := (ownH_empty w w.heap.size (Nat.le_refl _)).kept hb3.out
    have hPs : Hid (∃ B3 : Blk w3 (w.heap.size + 1) 9 (P.map vstr), True) := ⟨by have := HPt.out; simpa using this, trivial⟩
    obtain ⟨HB3, _⟩ := hPs.out
    have HB3 := Lib.hid HB3
    clear hPs HS HPt
    obtain ⟨tb, htb⟩ : ∃ tb, tb = w.heap.size + 1 := ⟨_, rfl⟩
    rw [← htb] at HB3 ⊢
    clear htb
    go_loopw [21, 6] (fun i v wr => ∃ (k : Nat) (L : List Nat), k ≤ k0 + 1 ∧ i = .int .i64 (k : Int) ∧ L.length = k ∧ Kept w wr ∧ Blk wr tb 9 (P.map vstr) ∧ OwnH wr w.heap.size v L.length L ∧ (pcl e (P.drop k)).map (fun t => L ++ t) = R) (fun i _ _ => k0 + 1 - (intOf i).toNat)
    case atStart => exact ⟨0, [], by omega, rfl, rfl, hk3, HB3.out, hown3, by rw [HR0.out]; simp⟩
    case round =>
      obtain ⟨k, L, hk, rfl, hLk, hkp, hbk, hown, hR⟩ := hrel
      clear hown3 hk3 HR0 HB3
      rw [hLk] at hown
      have hkz := hkp.size
      have HBk := Lib.hid hbk
      clear hbk
      by_cases hlt : k < k0 + 1
      · have hki : (k : Int) < (k0 : Int) + 1 := by omega
        obtain ⟨p, hp⟩ : ∃ p, P[k]? = some p := ⟨_, List.getElem?_eq_getElem (by rw [HK.out]; exact hlt)⟩
        have hcell := HBk.out.cell (vstr_at P k p hp)
        have hpl := hmem.out p (List.mem_of_getElem? hp)
        have HPc := piece_any p wr (by omega)
        unfold pcV at HPc
        have hdrop : P.drop k = p :: P.drop (k + 1) := by
          have hk' : k < P.length := by rw [HK.out]; exact hlt
          rw [List.drop_eq_getElem_cons hk']
          congr 1
          rw [List.getElem?_eq_getElem hk'] at hp
          exact Option.some.inj hp
        rw [hdrop] at hR
        have hkn : k < k0 + 1 := hlt
        by_cases hlast : k = k0
        · have hke : ((k : Int) == (k0 : Int)) = true := by simp; omega
          have hd2 : P.drop (k + 1) = [] := List.drop_eq_nil_of_le (by rw [HK.out]; omega)
          rw [hd2] at hR
          cases hdot : (e && p.contains 46) with
          | true =>
            rw [pcl_four e p hdot] at hR
            have he : e = true := by cases e <;> simp_all
            have hc : p.contains 46 = true := by cases e <;> simp_all
            subst he
            have HD := dot_any p wr
            rw [hc] at HD
            have HDt := Lib.hid HD
            have HF := fourNumbers_any p wr (by omega) (HT.out.kp hkp)
            unfold fourV at HF
            obtain ⟨o, ho⟩ : ∃ o, o = four p := ⟨_, rfl⟩
            have ho2 : (o.getD [0, 0]).length = 2 := by
              cases o with
              | none => rfl
              | some r => exact (four_two p r ho.symm).1
            rw [← ho] at HF hR
            obtain ⟨xs, hxs⟩ : ∃ xs, xs = o.getD [0, 0] := ⟨_, rfl⟩
            obtain ⟨b, hb⟩ : ∃ b, b = o.isSome := ⟨_, rfl⟩
            rw [← hxs, ← hb] at HF
            rw [← hxs] at ho2
            have HF4 := Lib.hid HF
            have HR := Lib.hid (And.intro hR (And.intro hxs hb))
            have hs67 := Lib.hid (size67' xs ho2)
            have hsl : Hid ((vhs xs).length = (vhs [0, 0]).length) := by show _ = _; rw [Hs_len, ho2]; rfl
            obtain ⟨x0, x1, hx01⟩ : ∃ x0 x1, xs = [x0, x1] := by
              match xs, ho2 with
              | [x0, x1], _ => exact ⟨x0, x1, rfl⟩
            have hg0 : ∀ {w' : World} {g : Nat}, Blk w' g 67 (vhs xs) → w'.cell? ⟨g, 0, none⟩ = some (.int .u16 (x0 : Int)) := fun hB => hB.cell (by rw [hx01]; rfl)
            have hg1 : ∀ {w' : World} {g : Nat}, Blk w' g 67 (vhs xs) → w'.cell? ⟨g, 1, none⟩ = some (.int .u16 (x1 : Int)) := fun hB => hB.cell (by rw [hx01]; rfl)
            have HG := Lib.hid (And.intro @hg0 @hg1)
            have hlit : Hid (∀ w' : World, Hs (w'.alloc (.cells #[.int .u16 (x0 : Int), .int .u16 (x1 : Int)] 37)) (w'.heap.size + 1) (some ⟨w'.heap.size, 0, none⟩) 2 xs) := fun w' => Hs.lit w' xs _ (by rw [hx01]; rfl) 2 ho2
            have HLa := Lib.hid hlast
            clear hlast hdrop hd2 hdot hc HD HF ho hxs hb ho2 hR hp HPc hg0 hg1 hx01
            go_wp2_with (first
              | (go_at_call 42; with_reducible refine HDt.out.mono ?_; rintro x w4 ⟨rfl, rfl⟩)
              | (go_at_call 43; with_reducible refine HF4.out.mono ?_; rintro x w5 ⟨rfl, hb5⟩; have hkp5 := hkp.step hb5; have hown5 := hown.kept hb5; clear hb5)
              | ((with_reducible show wpList _ _ _ (⟨some 10, .alloc _, _, _, _, _⟩ :: _) _ _); refine wp_new _ rfl 67 rfl _ type67 ?_; intro w6 g6 B6 F6; simp only [Act.put, List.setIfInBounds_toArray, List.set_cons_zero, List.set_cons_succ]; have hkp6 := hkp5.step F6.below; have hown6 := hown5.kept F6.below)
              | ((with_reducible show wpList _ _ _ (⟨none, .store 67 (.tmp 10) _, _, _, _, _⟩ :: _) _ _); refine wp_putAll _ rfl 67 (.tmp 10) (.tmp 41) rfl g6 67 _ (vhs xs) rfl rfl B6 hsl.out hs67.out (Hs_one _) ?_; intro w7 B7 U7; simp only [Act.put]; have c0 := HG.out.1 B7; have c1 := HG.out.2 B7; have hb67 := U7.below (Nat.le_of_eq F6.is.symm); have hown7 := (hown5.kept (F6.below.trans hb67)); have hkp7 := hkp5.step (F6.below.trans hb67); have hz7 := hkp7.size; clear hb67)
              | (at_builtin; refine wp_appH _ rfl (.tmp 43) (.tmp 48) rfl w.heap.size _ k L rfl (hown7.alloc _) _ _ 2 2 xs rfl (hlit.out _) (by omega) (by simp; omega) (k + 2) (L ++ xs) rfl rfl ?_; intro A8 c8 w8 hc8 hs8 hown8 hb8 hkb8))
            go_ret2
            have hkp8 : Kept w w8 := hkp7.base (((Below.refl _ _).alloc hz7 _).trans hb8)
            have hR := HR.out.1
            rw [HR.out.2.2]
            rw [HR.out.2.1] at hs8
            cases o with
            | none =>
              rw [← hR]
              exact ⟨_, rfl, hkp8⟩
            | some r =>
              rw [← hR]
              have hlen : (L ++ r).length = k + 2 := hs8.1
              show ∃ A c, _ ∧ _
              rw [hlen]
              exact ⟨_, _, rfl, hc8, hs8, hkp8⟩
          | false =>
            rw [pcl_last e p hdot] at hR
            have hstop : pc p = none → R = none := fun h => by rw [← hR, h]; rfl
            have hgo : ∀ n, pc p = some n → (pcl e (P.drop (k + 1))).map (fun t => (L ++ [n]) ++ t) = R := fun n h => by rw [← hR, h, hd2]; simp [pcl]
            have HDt := dot_any p wr
            cases e with
            | true =>
              have hc : p.contains 46 = false := by simpa using hdot
              rw [hc] at HDt
              have HDt := Lib.hid HDt
              have HLa := Lib.hid hlast
              clear hlast hdrop hd2 hdot hc hR hp
              cases hpc : pc p with
              | none =>
                have hno := Lib.hid (hstop hpc)
                rw [hpc] at HPc
                have HPc2 : Hid (Calls Tryd.prog 44 #[.string (str p)] wr fun e w' => e = .returned (.tuple #[.int .u16 0, .bool false]) ∧ w' = wr) := HPc
                clear hpc HPc hstop hgo
                go_wp2_with (first
                  | (go_at_call 42; with_reducible refine HDt.out.mono ?_; rintro x w4 ⟨rfl, rfl⟩)
                  | (go_at_call 44; with_reducible refine HPc2.out.mono ?_; rintro x w5 ⟨rfl, rfl⟩))
                go_ret2
                rw [hno.out]
                exact ⟨_, rfl, hkp⟩
              | some n =>
                have hyes := Lib.hid (hgo n hpc)
                rw [hpc] at HPc
                have HPc2 : Hid (Calls Tryd.prog 44 #[.string (str p)] wr fun e w' => e = .returned (.tuple #[.int .u16 (n : Int), .bool true]) ∧ w' = wr) := HPc
                clear hpc HPc hstop hgo
                go_wp2_with (first
                  | (go_at_call 42; with_reducible refine HDt.out.mono ?_; rintro x w4 ⟨rfl, rfl⟩)
                  | (go_at_call 44; with_reducible refine HPc2.out.mono ?_; rintro x w5 ⟨rfl, rfl⟩)
                  | (at_builtin; refine wp_appH _ rfl (.tmp 58) (.tmp 60) rfl w.heap.size _ k L rfl (hown.alloc _) _ _ 1 1 [n] rfl (Hs.lit _ [n] _ rfl 1 rfl) (by omega) (by simp; omega) (k + 1) (L ++ [n]) rfl rfl ?_; intro A8 c8 w8 hc8 hs8 hown8 hb8 hkb8))
                go_roundw
                case rel =>
                  refine ⟨k + 1, L ++ [n], by omega, by go_num, by simp [hLk], hkp.base (((Below.refl _ _).alloc hkz _).trans hb8), (HBk.out.alloc _).but hkb8 (by decide), ?_, hyes.out⟩
                  rw [show (L ++ [n]).length = k + 1 by simp [hLk]]
                  exact hown8
                case measure => simp [intOf]; omega
            | false =>
              have HDt := Lib.hid HDt
              have HLa := Lib.hid hlast
              clear hlast hdrop hd2 hdot hR hp
              cases hpc : pc p with
              | none =>
                have hno := Lib.hid (hstop hpc)
                rw [hpc] at HPc
                have HPc2 : Hid (Calls Tryd.prog 44 #[.string (str p)] wr fun e w' => e = .returned (.tuple #[.int .u16 0, .bool false]) ∧ w' = wr) := HPc
                clear hpc HPc hstop hgo
                go_wp2_with (first
                  | (go_at_call 42; with_reducible refine HDt.out.mono ?_; rintro x w4 ⟨rfl, rfl⟩)
                  | (go_at_call 44; with_reducible refine HPc2.out.mono ?_; rintro x w5 ⟨rfl, rfl⟩))
                go_ret2
                rw [hno.out]
                exact ⟨_, rfl, hkp⟩
              | some n =>
                have hyes := Lib.hid (hgo n hpc)
                rw [hpc] at HPc
                have HPc2 : Hid (Calls Tryd.prog 44 #[.string (str p)] wr fun e w' => e = .returned (.tuple #[.int .u16 (n : Int), .bool true]) ∧ w' = wr) := HPc
                clear hpc HPc hstop hgo
                go_wp2_with (first
                  | (go_at_call 42; with_reducible refine HDt.out.mono ?_; rintro x w4 ⟨rfl, rfl⟩)
                  | (go_at_call 44; with_reducible refine HPc2.out.mono ?_; rintro x w5 ⟨rfl, rfl⟩)
                  | (at_builtin; refine wp_appH _ rfl (.tmp 58) (.tmp 60) rfl w.heap.size _ k L rfl (hown.alloc _) _ _ 1 1 [n] rfl (Hs.lit _ [n] _ rfl 1 rfl) (by omega) (by simp; omega) (k + 1) (L ++ [n]) rfl rfl ?_; intro A8 c8 w8 hc8 hs8 hown8 hb8 hkb8))
                go_roundw
                case rel =>
                  refine ⟨k + 1, L ++ [n], by omega, by go_num, by simp [hLk], hkp.base (((Below.refl _ _).alloc hkz _).trans hb8), (HBk.out.alloc _).but hkb8 (by decide), ?_, hyes.out⟩
                  rw [show (L ++ [n]).length = k + 1 by simp [hLk]]
                  exact hown8
                case measure => simp [intOf]; omega
        · have hke : ((k : Int) == (k0 : Int)) = false := by simp; omega
          obtain ⟨q2, r2, hqr⟩ : ∃ q r, P.drop (k + 1) = q :: r := by
            match hd : P.drop (k + 1) with
            | [] =>
              have := congrArg List.length hd
              rw [List.length_drop, HK.out] at this
              simp at this
              omega
            | q :: r => exact ⟨q, r, rfl⟩
          rw [hqr] at hR
          have hstop : pc p = none → R = none := fun h => by rw [← hR, pcl_stop e p q2 r2 h]; rfl
          have hgo : ∀ n, pc p = some n → (pcl e (P.drop (k + 1))).map (fun t => (L ++ [n]) ++ t) = R := fun n h => by
            rw [← hR, pcl_more e p q2 r2 n h, hqr, Option.map_map]
            congr 1
            funext t
            simp
          have HDt := Lib.hid (dot_any p wr)
          cases e with
          | true =>
            clear hdrop hqr hR hp
            cases hpc : pc p with
            | none =>
              have hno := Lib.hid (hstop hpc)
              rw [hpc] at HPc
              have HPc2 : Hid (Calls Tryd.prog 44 #[.string (str p)] wr fun e w' => e = .returned (.tuple #[.int .u16 0, .bool false]) ∧ w' = wr) := HPc
              clear hpc HPc hstop hgo
              go_wp2_with (first
                | (go_at_call 42; with_reducible refine HDt.out.mono ?_; rintro x w4 ⟨rfl, rfl⟩)
                | (go_at_call 44; with_reducible refine HPc2.out.mono ?_; rintro x w5 ⟨rfl, rfl⟩))
              go_ret2
              rw [hno.out]
              exact ⟨_, rfl, hkp⟩
            | some n =>
              have hyes := Lib.hid (hgo n hpc)
              rw [hpc] at HPc
              have HPc2 : Hid (Calls Tryd.prog 44 #[.string (str p)] wr fun e w' => e = .returned (.tuple #[.int .u16 (n : Int), .bool true]) ∧ w' = wr) := HPc
              clear hpc HPc hstop hgo
              go_wp2_with (first
                | (go_at_call 42; with_reducible refine HDt.out.mono ?_; rintro x w4 ⟨rfl, rfl⟩)
                | (go_at_call 44; with_reducible refine HPc2.out.mono ?_; rintro x w5 ⟨rfl, rfl⟩)
                | (at_builtin; refine wp_appH _ rfl (.tmp 58) (.tmp 60) rfl w.heap.size _ k L rfl (hown.alloc _) _ _ 1 1 [n] rfl (Hs.lit _ [n] _ rfl 1 rfl) (by omega) (by simp; omega) (k + 1) (L ++ [n]) rfl rfl ?_; intro A8 c8 w8 hc8 hs8 hown8 hb8 hkb8))
              go_roundw
              case rel =>
                refine ⟨k + 1, L ++ [n], by omega, by go_num, by simp [hLk], hkp.base (((Below.refl _ _).alloc hkz _).trans hb8), (HBk.out.alloc _).but hkb8 (by decide), ?_, hyes.out⟩
                rw [show (L ++ [n]).length = k + 1 by simp [hLk]]
                exact hown8
              case measure => simp [intOf]; omega
          | false =>
            clear hdrop hqr hR hp
            cases hpc : pc p with
            | none =>
              have hno := Lib.hid (hstop hpc)
              rw [hpc] at HPc
              have HPc2 : Hid (Calls Tryd.prog 44 #[.string (str p)] wr fun e w' => e = .returned (.tuple #[.int .u16 0, .bool false]) ∧ w' = wr) := HPc
              clear hpc HPc hstop hgo
              go_wp2_with (first
                | (go_at_call 42; with_reducible refine HDt.out.mono ?_; rintro x w4 ⟨rfl, rfl⟩)
                | (go_at_call 44; with_reducible refine HPc2.out.mono ?_; rintro x w5 ⟨rfl, rfl⟩))
              go_ret2
              rw [hno.out]
              exact ⟨_, rfl, hkp⟩
            | some n =>
              have hyes := Lib.hid (hgo n hpc)
              rw [hpc] at HPc
              have HPc2 : Hid (Calls Tryd.prog 44 #[.string (str p)] wr fun e w' => e = .returned (.tuple #[.int .u16 (n : Int), .bool true]) ∧ w' = wr) := HPc
              clear hpc HPc hstop hgo
              go_wp2_with (first
                | (go_at_call 42; with_reducible refine HDt.out.mono ?_; rintro x w4 ⟨rfl, rfl⟩)
                | (go_at_call 44; with_reducible refine HPc2.out.mono ?_; rintro x w5 ⟨rfl, rfl⟩)
                | (at_builtin; refine wp_appH _ rfl (.tmp 58) (.tmp 60) rfl w.heap.size _ k L rfl (hown.alloc _) _ _ 1 1 [n] rfl (Hs.lit _ [n] _ rfl 1 rfl) (by omega) (by simp; omega) (k + 1) (L ++ [n]) rfl rfl ?_; intro A8 c8 w8 hc8 hs8 hown8 hb8 hkb8))
              go_roundw
              case rel =>
                refine ⟨k + 1, L ++ [n], by omega, by go_num, by simp [hLk], hkp.base (((Below.refl _ _).alloc hkz _).trans hb8), (HBk.out.alloc _).but hkb8 (by decide), ?_, hyes.out⟩
                rw [show (L ++ [n]).length = k + 1 by simp [hLk]]
                exact hown8
              case measure => simp [intOf]; omega
      · have hk' : Hid (k = k0 + 1) := by show _ = _; omega
        have hki : ¬ (k : Int) < (k0 : Int) + 1 := by omega
        clear hk hlt
        have HR := Lib.hid (And.intro hR hLk)
        clear hR hLk
        obtain ⟨A, cc, rfl, hcc, hs⟩ := hown.form
        go_wp2_with fail
        go_ret2
        have h1 := HR.out.1
        rw [hk'.out, List.drop_eq_nil_of_le (by rw [HK.out]; omega)] at h1
        simp [pcl] at h1
        rw [← h1, ← HR.out.2] at *
        exact ⟨_, _, rfl, hcc, hs, hkp⟩
end Go.Proofs.YtcfgcakmffkpmaaDoor
