/-
  What (*strings.Replacer).build answers at the program's own six texts: a table that lets all bytes be but 9, 10 and 13, which it strikes. No condition.
  The replacer's once: what (*strings.Replacer).buildOnce, (*sync.Once).doSlow and Do leave, the once not yet done. No condition.
-/
import Derived.Test.YtcepigekibidfaaGreatDoorGl
import Derived.Lib.ConvBytes
import Derived.Shelf.Abstract
namespace Go.Proofs.YtcepigekibidfaaGreatDoor
open Go.RowKit

def nsl : Value := .slice none 0 0
/-- The table's cells: what stands for each byte, and which are struck. -/
structure RpC (D : List Nat) (T : Value) (C : List Value) : Prop where
  len : C.length = 257
  tr : C[256]? = some T
  yes : ∀ j, j < 256 → j ∈ D → ∃ a c, C[j]? = some (.slice (some a) 0 c)
  no : ∀ j, j < 256 → j ∉ D → C[j]? = some nsl
  one : ∀ u ∈ C, u.oneCell' = true
def zC (T : Value) : List Value := List.replicate 256 nsl ++ [T]
theorem zC_len (T : Value) : (zC T).length = 257 := by
  unfold zC
  rw [List.length_append, List.length_replicate]
  rfl
theorem zC_ok (A : Option Addr) (n c : Nat) : RpC [] (.slice A n c) (zC (.slice A n c)) := by
  refine ⟨zC_len _, ?_, fun j _ h => (by cases h), fun j hj _ => ?_, fun u hu => ?_⟩
  · unfold zC
    rw [List.getElem?_append_right (by rw [List.length_replicate]; omega), List.length_replicate]
    rfl
  · unfold zC
    rw [List.getElem?_append_left (by rw [List.length_replicate]; exact hj), List.getElem?_replicate, if_pos hj]
  · rcases List.mem_append.1 hu with hu | hu
    · rw [List.eq_of_mem_replicate hu]; rfl
    · rw [List.mem_singleton.1 hu]; rfl
theorem type164 : (Tryz.prog.info? 164).map (fun i => i.zero) = some (some (.agg (zC nsl).toArray)) := by kernel_rfl
theorem size164 : (Tryz.prog.info? 164).map (·.size) = some 257 := by kernel_rfl
theorem build164 (A : Option Addr) (n c : Nat) (w : World) : (Instr.build 164 #[(1, .slice A n c)]).run Tryz.prog w = .ok (.agg (zC (.slice A n c)).toArray) w := by kernel_rfl
theorem size34 : (Tryz.prog.info? 34).map (·.size) = some 1 := by kernel_rfl
theorem size36 : (Tryz.prog.info? 36).map (·.size) = some 1 := by kernel_rfl
/-- One more byte is struck, and told. -/
theorem RpC.more {D : List Nat} {T T' : Value} {C : List Value} (h : RpC D T C) (o : Nat) (ho : o < 256) (a : Addr) (c : Nat) (hT : T'.oneCell' = true) : RpC (o :: D) T' ((C.set 256 T').set o (.slice (some a) 0 c)) := by
  refine ⟨by simp [h.len], ?_, fun j hj hm => ?_, fun j hj hm => ?_, fun u hu => ?_⟩
  · rw [List.getElem?_set_ne (by omega), List.getElem?_set_self (by rw [h.len]; omega)]
  · by_cases e : o = j
    · subst e
      exact ⟨a, c, by rw [List.getElem?_set_self (by simp [h.len]; omega)]⟩
    · rw [List.getElem?_set_ne e, List.getElem?_set_ne (by omega)]
      rcases List.mem_cons.1 hm with hm | hm
      · exact absurd hm.symm e
      · exact h.yes j hj hm
  · have e : o ≠ j := fun e => hm (by simp [e])
    rw [List.getElem?_set_ne e, List.getElem?_set_ne (by omega)]
    exact h.no j hj (fun hm2 => hm (by simp [hm2]))
  · rcases List.mem_or_eq_of_mem_set hu with hu | hu
    · rcases List.mem_or_eq_of_mem_set hu with hu | hu
      · exact h.one u hu
      · rw [hu]; exact hT
    · rw [hu]; rfl
/-- What the program's own replacer is built of: the table in block h, and three texts. -/
def Rpl (w : World) (h : Nat) : Prop := ∃ C p c, Blk w h 164 C ∧ RpC [9, 10, 13] (.slice (some ⟨p, 0, none⟩) 3 c) C ∧ (p < w.heap.size ∧ ∃ cs fr, w.heap[p]? = some (.cells cs 9 fr)) ∧ ∀ (j : Nat) (q : List UInt8), ([[13], [10], [9]] : List (List UInt8))[j]? = some q → w.cell? ⟨p, j, none⟩ = some (vstr q)
theorem Rpl.kept {w w' : World} {h : Nat} (hr : Rpl w h) (hb : Below w.heap.size w w') : Rpl w' h := by
  obtain ⟨C, p, c, h1, h2, ⟨h3, cs, fr, h4⟩, h5⟩ := hr
  exact ⟨C, p, c, h1.kept hb, h2, ⟨by have := hb.size; omega, cs, fr, (hb.block p h3).trans h4⟩, fun j q hj => (hb.cell (p := ⟨p, j, none⟩) h3).trans (h5 j q hj)⟩
theorem Rpl.upd {w w' : World} {h b : Nat} {t : TypeId} {X : List Value} (hr : Rpl w h) (hb : Blk w b t X) (ht1 : t ≠ 164) (ht2 : t ≠ 9) (hu : Upd b w w') : Rpl w' h := by
  obtain ⟨C, p, c, h1, h2, ⟨h3, cs, fr, h4⟩, h5⟩ := hr
  have n1 : h ≠ b := by
    rintro rfl
    have e : w.heap[h]? = _ := h1
    have e2 : w.heap[h]? = _ := hb
    rw [e] at e2
    cases e2
    exact ht1 rfl
  have n2 : p ≠ b := by
    rintro rfl
    have e2 : w.heap[p]? = _ := hb
    rw [h4] at e2
    cases e2
    exact ht2 rfl
  refine ⟨C, p, c, h1.upd hu n1, h2, ⟨by rw [hu.size]; exact h3, cs, fr, (hu.block p n2).trans h4⟩, fun j q hj => ?_⟩
  rw [← h5 j q hj]
  simp [World.cell?, hu.block p n2]

def odn : Nat → Nat
  | 0 => 13
  | 1 => 10
  | _ => 9
def dnk : Nat → List Nat
  | 0 => []
  | k + 1 => odn k :: dnk k
def tnk (k : Nat) : List (List UInt8) := ([[13], [10], [9]] : List (List UInt8)).take k
theorem vstr_str (l : List UInt8) : vstr l = .string (str l) := rfl

/-- '[]byte(s)' at an operation of a walk. -/
theorem wp_conv {ops : Array Oper} {rest : List Oper} {o : Oper} {a : Act} {Q : Exit → Act → World → Prop} (w : World) (hgd : o.guard = none) (x : Operand) (ho : o.op = .convert 9 36 x) (l : List UInt8) (hx : a.eval x = .string (str l)) (hl : l.length ≤ 1000000000)
    (h : ∀ c w', l.length ≤ c → Wb w' w.heap.size l → Below w.heap.size w w' → wpList Tryz.prog ops Q rest (a.put o.dst (.slice (some ⟨w.heap.size, 0, none⟩) l.length c)) w') : wpList Tryz.prog ops Q (o :: rest) a w := by
  obtain ⟨c, w', hrun, h1, _, h2, h3⟩ := conv_bytes w l hl
  refine wpList_plain hgd fun K hK => ?_
  unfold Oper.wp execOp
  simp only [ho, hx, Sem.run_bind, hrun, Result.andThen_ok, Sem.run_pure]
  exact hK _ _ (h c w' h1 h2 h3)
theorem lit_cell (w : World) (p _q : List UInt8) : ∀ (j : Nat) (r : List UInt8), ([p] : List (List UInt8))[j]? = some r → (w.alloc (.cells #[.string (str p)] 9)).cell? ⟨w.heap.size, 0 + j, none⟩ = some (vstr r) := by
  intro j r hj
  match j with
  | 0 =>
    cases hj
    rw [World.cell?_alloc_at _ _ _ _ rfl]
    rfl
  | j + 1 => simp at hj
theorem lit_one (w : World) (p : List UInt8) (g : Nat) (hg : g = w.heap.size) : ∀ (j : Nat) (r : List UInt8), ([p] : List (List UInt8))[j]? = some r → (w.alloc (.cells #[.string (str p)] 9)).cell? ⟨g, 0 + j, none⟩ = some (vstr r) := by
  rw [hg]
  exact lit_cell w p p
theorem ne_of_blk {w : World} {base n b : Nat} {v : Value} {L : List (List UInt8)} {t : TypeId} {C : List Value} (h : OwnT w base v n L) (hb : Blk w b t C) (ht : t ≠ 9) : v.ownBlock ≠ some b := by
  intro e
  rcases h.2 with ⟨rfl, _⟩ | ⟨g, cap, cur, rfl, _, hg, _⟩
  · cases e
  · have e2 : g = b := by simpa [Value.ownBlock] using e
    subst e2
    have e3 : w.heap[g]? = _ := hb
    rw [hg] at e3
    cases e3
    exact ht rfl
theorem sl_eq (w : World) : (binOp .eql 36 (.slice none 0 0) (.slice none 0 0)).run Tryz.prog w = .ok (.bool true) w := by kernel_rfl
theorem odn_all (k : Nat) (hk : k < 3) : odn k < 256 ∧ odn k ∉ dnk k ∧ r6.getD (4 - 2 * k) [] = [UInt8.ofNat (odn k)] ∧ (UInt8.ofNat (odn k)).toNat = odn k ∧ tnk (k + 1) = tnk k ++ [[UInt8.ofNat (odn k)]] := by
  match k, hk with
  | 0, _ => decide
  | 1, _ => decide
  | 2, _ => decide
set_option maxHeartbeats 8000000 in
set_option maxRecDepth 100000 in
theorem build_any (g : Nat) (A : Option Addr) (c : Nat) (w : World) (hB : Blk w g 115 (rpC 0 1 .nilIface (.slice A 6 c))) (hown : OwnT w 0 (.slice A 6 c) 6 r6) :
    Calls Tryz.prog 117 #[.pointer (some ⟨g, 0, none⟩)] w fun e w' => ∃ h, e = .returned (.iface 165 (.pointer (some ⟨h, 0, none⟩))) ∧ Below w.heap.size w w' ∧ Rpl w' h := by
  obtain ⟨A1, c1, e1, hc1, hml, hx⟩ := hown.form
  cases e1
  unfold maxLen at hml
  obtain ⟨p0, rfl, _, hp0, hcells⟩ := hx (by omega)
  have hsl := hB.cell (i := 4) rfl
  have hcw : ∀ w', Kept w w' → ∀ (j : Nat) (q : List UInt8), r6[j]? = some q → w'.cell? ⟨p0, j, none⟩ = some (vstr q) := fun w' hk j q hj => (hk.cell (p := ⟨p0, j, none⟩) hp0).trans (hcells j q hj)
  have HC := Lib.hid hcw
  have k0 := hcells 0 _ rfl
  have k1 := hcells 1 _ rfl
  have k2 := hcells 2 _ rfl
  have k3 := hcells 3 _ rfl
  have k4 := hcells 4 _ rfl
  have k5 := hcells 5 _ rfl
  rw [vstr_str] at k0 k1 k2 k3 k4 k5
  have HCE := Lib.hid hcells
  clear hcells hcw hown hB hx
  obtain ⟨i0, hi, hz, hi1, hi2⟩ := info_parts text_info
  have hseq := sl_eq
  go_enter Tryz.func117, Tryz.ntmps117
  go_wp2_with fail
  go_loop [5, 4] (fun i b => ∃ k : Nat, k ≤ 3 ∧ i = .int .i64 ((2 * k : Nat) : Int) ∧ b = .bool (decide (k = 0))) (fun i _ => 6 - (intOf i).toNat)
  case atStart => exact ⟨0, by omega, rfl, rfl⟩
  case round =>
    obtain ⟨k, hk, rfl, rfl⟩ := hrel
    by_cases hlt : k < 3
    · obtain ⟨m, hm⟩ : ∃ m, m = 2 * k := ⟨_, rfl⟩
      obtain ⟨a0, ha0⟩ : ∃ a, a = str (r6.getD m []) := ⟨_, rfl⟩
      obtain ⟨a1, ha1⟩ : ∃ a, a = str [] := ⟨_, rfl⟩
      have c0 : w.cell? ⟨p0, m, none⟩ = some (.string a0) := by rw [ha0]; exact HCE.out m _ (by rw [hm]; match k, hlt with | 0, _ => rfl | 1, _ => rfl | 2, _ => rfl)
      have c1' : w.cell? ⟨p0, m + 1, none⟩ = some (.string a1) := by rw [ha1]; exact HCE.out (m + 1) _ (by rw [hm]; match k, hlt with | 0, _ => rfl | 1, _ => rfl | 2, _ => rfl)
      have s0 : a0.size = 1 := by rw [ha0, str_size, hm]; match k, hlt with | 0, _ => rfl | 1, _ => rfl | 2, _ => rfl
      have s1 : a1.size = 0 := by rw [ha1]; rfl
      have hmi : (m : Int) < 6 := by omega
      have hmi2 : (m : Int) + 1 < 6 := by omega
      have hmk : Hid (m = 2 * k ∧ k < 3) := ⟨hm, hlt⟩
      rw [← hm]
      clear hm hk hlt ha0 ha1 k0 k1 k2 k3 k4 k5
      go_wp2_with fail
      go_round
      case rel => exact ⟨k + 1, by have := hmk.out; omega, by have := hmk.out; rw [this.1]; go_num, by simp⟩
      case measure => have := hmk.out; simp [intOf]; omega
    · have hk3 : k = 3 := by omega
      subst hk3
      clear hlt hk k0 k1 k2 k3 k4 k5
      go_wp2_with (first
        | (at_make; refine wpList_make_own _ rfl _ _ 34 rfl w.heap.size 9 i0 _ 1 Tryz.underlying34 hi hz hi1 .i64 .i64 _ 3 rfl rfl rfl (by rw [hi2]; omega) (by unfold maxLen; omega) (Nat.le_refl _) ?_; intro w1 hown1 hgr1)
        | ((with_reducible show wpList _ _ _ (⟨some 95, .build _ _, _, _, _, _⟩ :: _) _ _); refine wp_build1 _ rfl 164 1 (.tmp 94) rfl _ rfl _ (build164 _ _ _ _) ?_; simp only [Act.put, List.setIfInBounds_toArray, List.set_cons_zero, List.set_cons_succ])
        | ((with_reducible show wpList _ _ _ (⟨some 11, .alloc _, _, _, _, _⟩ :: _) _ _); refine wp_new _ rfl 164 rfl _ type164 ?_; intro w2 h2 B2 F2; simp only [Act.put, List.setIfInBounds_toArray, List.set_cons_zero, List.set_cons_succ])
        | ((with_reducible show wpList _ _ _ (⟨none, .store 164 (.tmp 11) _, _, _, _, _⟩ :: _) _ _); refine wp_putAll _ rfl 164 (.tmp 11) (.tmp 95) rfl h2 164 _ (zC (.slice (some ⟨w.heap.size, 0, none⟩) 0 3)) rfl rfl B2 (by rw [zC_len, zC_len]) (by rw [zC_len]; exact size164) (zC_ok _ _ _).one ?_; intro w3 B3 U3; simp only [Act.put]))
      have hown1 : OwnT w1 w.heap.size (.slice (some ⟨w.heap.size, 0, none⟩) 0 3) 0 [] := hown1
      have hk1 : Kept w w1 := (Below.refl _ _).grown hgr1 (Nat.le_refl _) (fun k h => by cases h)
      have hne1 : Value.ownBlock (.slice (some ⟨w.heap.size, 0, none⟩) 0 3) ≠ some h2 := by
        intro e
        have := (World.ownsRow.lt hown1 h2 e).2
        rw [F2.is] at this
        omega
      have hown3 := (hown1.kept F2.below).chg (Chg.upd1 U3 h2) hne1
      have hk3 : Kept w w3 := (hk1.step F2.below).base (U3.below (by rw [F2.is]; exact hk1.size))
      have hh2 : Hid (w.heap.size ≤ h2) := by show _ ≤ _; rw [F2.is]; exact hk1.size
      have hF := Lib.hid F2
      have hG := Lib.hid hgr1
      have Bz := Lib.hid B3
      have hoz := Lib.hid hown3
      have hkz := Lib.hid hk3
      have hnz := Lib.hid hne1
      clear hown1 hk1 hne1 hown3 hk3 F2 hgr1 B2 U3 B3
      go_loopw [12] (fun x wr => ∃ (k : Nat) (C : List Value) (A' : Option Addr) (c' : Nat), k ≤ 3 ∧ x = .int .i64 (4 - 2 * (k : Int)) ∧ k ≤ c' ∧ Blk wr h2 164 C ∧ RpC (dnk k) (.slice A' k c') C ∧ OwnT wr w.heap.size (.slice A' k c') k (tnk k) ∧ Value.ownBlock (.slice A' k c') ≠ some h2 ∧ Kept w wr) (fun x _ => (intOf x + 2).toNat)
      case atStart => exact ⟨0, _, _, _, by omega, rfl, by omega, Bz.out, zC_ok _ _ _, hoz.out, hnz.out, hkz.out⟩
      case round =>
        obtain ⟨k, C, A', c', hk, rfl, hkc, hB, hR, hown, hne, hkp⟩ := hrel
        by_cases hlt : k < 3
        · obtain ⟨n, hn⟩ : ∃ n, n = 4 - 2 * k := ⟨_, rfl⟩
          have hni : (4 : Int) - 2 * (k : Int) = (n : Int) := by omega
          rw [hni]
          obtain ⟨o1, o2, o3, o4, o5⟩ := odn_all k hlt
          obtain ⟨oc, hoc⟩ : ∃ oc, oc = UInt8.ofNat (odn k) := ⟨_, rfl⟩
          rw [← hoc] at o3 o4 o5
          obtain ⟨o, ho⟩ : ∃ o, o = odn k := ⟨_, rfl⟩
          have hdk : Hid (dnk (k + 1) = o :: dnk k) := by show _ = _; rw [ho]; rfl
          rw [← ho] at o1 o2 o4
          have hn6 : n < 6 := by omega
          have c0 : wr.cell? ⟨p0, n, none⟩ = some (.string (str [oc])) := HC.out wr hkp n _ (by
            rw [← o3, ← hn]
            have : n < r6.length := hn6
            rw [List.getD_eq_getElem?_getD, List.getElem?_eq_getElem this]
            rfl)
          have c1' : wr.cell? ⟨p0, n + 1, none⟩ = some (.string (str [])) := HC.out wr hkp (n + 1) _ (by rw [hn]; match k, hlt with | 0, _ => rfl | 1, _ => rfl | 2, _ => rfl)
          have c2 : wr.cell? ⟨h2, o, none⟩ = some (.slice none 0 0) := hB.cell (hR.no o o1 o2)
          have c3 : wr.cell? ⟨h2, 256, none⟩ = some (.slice A' k c') := hB.cell hR.tr
          have HG : ∀ h, ((str [oc])[0]'h).toNat = o := fun h => by rw [← o4]; rfl
          have hsz1 : (str [oc]).size = 1 := rfl
          have hnn : (0 : Int) ≤ (n : Int) := by omega
          have hn6i : (n : Int) < 6 := by omega
          have hn7i : (n : Int) + 1 < 6 := by omega
          have hwz := hkp.size
          have hk9 : k < 10 := by omega
          have H := Lib.hid (And.intro hn (And.intro hlt (And.intro o5 hR)))
          have HH := Lib.hid (And.intro hown (And.intro hne hkp))
          have HB := Lib.hid hB
          have HO := Lib.hid (And.intro o1 o4)
          clear hn hlt hk o3 o5 hoc ho hR hown hne hkp hB o2 hni hn6
          go_wp2_with (first
            | ((with_reducible show wpList _ _ _ (⟨some 122, .convert _ _ _, _, _, _, _⟩ :: _) _ _); refine wp_str _ rfl (.tmp 121) rfl _ _ 1 1 [oc] rfl (Bs.one' _ _ _ (by rw [HO.out.2])) ?_; simp only [Act.put, List.setIfInBounds_toArray, List.set_cons_zero, List.set_cons_succ])
            | ((with_reducible show wpList _ _ _ (⟨some 124, .call _, _, _, _, _⟩ :: _) _ _); refine wp_appT _ rfl (.tmp 119) (.tmp 123) rfl w.heap.size _ k (tnk k) rfl ((HH.out.1.alloc _).alloc _) (wr.heap.size + 1) 0 1 1 [[oc]] rfl rfl (lit_one _ _ _ (by simp)) (by omega) (by simp; omega) (k + 1) rfl ?_; intro A4 c4 w4 hc4 hown4 hb4 hkb4 hgr4; simp only [Act.put, List.setIfInBounds_toArray, List.set_cons_zero, List.set_cons_succ]; have B4 := ((HB.out.alloc _).alloc _).but hkb4 (by decide))
            | ((with_reducible show wpList _ _ _ (⟨none, .store 34 (.tmp 125) (.tmp 124), _, _, _, _⟩ :: _) _ _); refine wp_set _ rfl 34 (.tmp 125) (.tmp 124) rfl h2 256 164 C _ rfl rfl rfl rfl B4 (by rw [H.out.2.2.2.len]; omega) size34 ?_; intro w5 B5 U5; simp only [Act.put])
            | ((with_reducible show wpList _ _ _ (⟨some 128, .convert _ _ _, _, _, _, _⟩ :: _) _ _); refine wp_conv _ rfl (.tmp 127) rfl [] rfl (by decide) ?_; intro c6 w6 hc6 hW6 hb6; simp only [Act.put, List.setIfInBounds_toArray, List.set_cons_zero, List.set_cons_succ]; have B6 := B5.kept hb6)
            | ((with_reducible show wpList _ _ _ (⟨none, .store 36 (.tmp 130) (.tmp 128), _, _, _, _⟩ :: _) _ _); refine wp_set _ rfl 36 (.tmp 130) (.tmp 128) rfl h2 o 164 _ _ rfl rfl rfl rfl B6 (by rw [List.length_set, H.out.2.2.2.len]; have := HO.out.1; omega) size36 ?_; intro w7 B7 U7; simp only [Act.put]))
          go_roundw
          case rel =>
            have kk4 := ((HH.out.2.2.alloc (.cells #[.int .u8 (o : Int)] 5)).alloc (.cells #[.string (str [oc])] 9)).base hb4
            have kk5 := kk4.base (U5.below hh2.out)
            have kk6 := kk5.step hb6
            have kk7 := kk6.base (U7.below hh2.out)
            have hown4 : OwnT w4 w.heap.size (.slice A4 (k + 1) c4) (k + 1) (tnk (k + 1)) := by rw [H.out.2.2.1]; exact hown4
            have hown5 := hown4.chg (Chg.upd1 U5 h2) (ne_of_blk hown4 B4 (by decide))
            have hown6 := hown5.kept hb6
            have hown7 := hown6.chg (Chg.upd1 U7 h2) (ne_of_blk hown6 B6 (by decide))
            refine ⟨k + 1, _, A4, c4, by have := H.out.2.1; omega, ?_, hc4, B7, ?_, hown7, ne_of_blk hown7 B7 (by decide), kk7⟩
            · have h1 := H.out.1
              have h2' := H.out.2.1
              congr 1
              omega
            · rw [hdk.out]
              exact H.out.2.2.2.more o HO.out.1 _ _ rfl
          case measure => simp only [intOf]; omega
        · have hk3 : k = 3 := by omega
          subst hk3
          have hneg : ¬ (0 : Int) ≤ 4 - 2 * ((3 : Nat) : Int) := by decide
          have HB := Lib.hid hB
          have HR := Lib.hid hR
          have HO := Lib.hid hown
          have HK := Lib.hid hkp
          have hkc2 := Lib.hid hkc
          clear hlt hk hB hR hown hne hkp hkc
          go_wp2_with fail
          go_ret
          refine ⟨h2, rfl, HK.out, ?_⟩
          obtain ⟨A5, c5, e5, _, _, h5⟩ := HO.out.form
          cases e5
          obtain ⟨p5, rfl, _, hp5, hc5⟩ := h5 (by have := hkc2.out; omega)
          refine ⟨C, p5, c', HB.out, HR.out, ⟨hp5, ?_⟩, hc5⟩
          rcases HO.out.2 with ⟨e6, _⟩ | ⟨g6, cap6, cur6, e6, _, hg6, _⟩
          · cases e6
          · cases e6
            exact ⟨_, _, hg6⟩
end Go.Proofs.YtcepigekibidfaaGreatDoor
namespace Go.Proofs.YtcepigekibidfaaGreatDoor
open Go.RowKit

theorem size113 : (Tryz.prog.info? 113).map (·.size) = some 1 := by kernel_rfl
def ifc (h : Nat) : Value := .iface 165 (.pointer (some ⟨h, 0, none⟩))

set_option maxHeartbeats 2000000 in
theorem buildOnce_any (g : Nat) (A : Option Addr) (c : Nat) (w : World) (hB : Blk w g 115 (rpC 0 1 .nilIface (.slice A 6 c))) (hown : OwnT w 0 (.slice A 6 c) 6 r6) :
    Calls Tryz.prog 84 #[.pointer (some ⟨g, 0, none⟩)] w fun e w' => e = .returned (.tuple #[]) ∧ Chg g g w w' ∧ ∃ h, Blk w' g 115 (rpC 0 1 (ifc h) nsl) ∧ Rpl w' h := by
  have HM := Lib.hid (build_any g A c w hB hown)
  have hB := Lib.hid hB
  go_enter Tryz.func84, Tryz.ntmps84
  go_wp2_with (first
    | (go_at_call 117; with_reducible refine HM.out.mono ?_; rintro e w1 ⟨h, rfl, hb1, hr1⟩; have B1 := hB.out.kept hb1)
    | ((with_reducible show wpList _ _ _ (⟨none, .store 113 (.tmp 6) (.tmp 4), _, _, _, _⟩ :: _) _ _); refine wp_set _ rfl 113 (.tmp 6) (.tmp 4) rfl g 3 115 _ (ifc h) rfl rfl rfl rfl B1 (show 3 < 5 by decide) size113 ?_; intro w2 B2 U2; simp only [Act.put])
    | ((with_reducible show wpList _ _ _ (⟨none, .store 34 (.tmp 9) (.const _), _, _, _, _⟩ :: _) _ _); refine wp_set _ rfl 34 (.tmp 9) (.const nsl) rfl g 4 115 _ nsl rfl rfl rfl rfl B2 (show 4 < 5 by decide) size34 ?_; intro w3 B3 U3; simp only [Act.put]))
  go_end0
  refine ⟨rfl, ((Chg.of_below hb1).trans (Chg.upd1 U2 g)).trans (Chg.upd1 U3 g), h, B3, ?_⟩
  exact ((hr1.upd B1 (by decide) (by decide) U2).upd B2 (by decide) (by decide) U3)

theorem load_any (a : Addr) (x : Int) (w : World) (h : w.cell? a = some (.int .u32 x)) : Calls Tryz.prog 115 #[.pointer (some a)] w fun e w' => e = .returned (.bool (x != 0)) ∧ w' = w := by
  have hl := run_call_load (P := Tryz.prog) Tryz.func144 (by kernel_rfl) (by kernel_rfl) (by kernel_rfl) .u32 (by kernel_rfl) h
  go_enter Tryz.func115, Tryz.ntmps115
  go_wp2
  go_ret
  exact ⟨rfl, rfl⟩

set_option maxRecDepth 100000 in
set_option maxHeartbeats 1600000 in
theorem slow_any (g : Nat) (A : Option Addr) (c : Nat) (w : World) (hB : Blk w g 115 (rpC 0 0 .nilIface (.slice A 6 c))) (hown : OwnT w 0 (.slice A 6 c) 6 r6) (hne : Value.ownBlock (.slice A 6 c) ≠ some g) :
    Calls Tryz.prog 116 #[.pointer (some ⟨g, 0, none⟩), .func (.func 84) #[.pointer (some ⟨g, 0, none⟩)] #[]] w fun e w' => e = .returned (.tuple #[]) ∧ Chg g g w w' ∧ ∃ h, Blk w' g 115 (rpC 1 0 (ifc h) nsl) ∧ Rpl w' h := by
  have B1 : Blk (w.setCell ⟨g, 1, none⟩ (.int .i32 1)) g 115 (rpC 0 1 .nilIface (.slice A 6 c)) := hB.set 1 _
  have U1 := Upd.setCell w g 1 (.int .i32 1)
  have HL := Lib.hid (lock_free ⟨g, 1, none⟩ w (hB.cell rfl) (hB.frozen 1))
  have HD := Lib.hid (load_any ⟨g, 0, none⟩ 0 _ (B1.cell rfl))
  have HF := Lib.hid (buildOnce_any g A c _ B1 (hown.chg (Chg.upd1 U1 g) hne))
  have U1 := Lib.hid U1
  obtain ⟨W1, hW1⟩ : ∃ W1, W1 = w.setCell ⟨g, 1, none⟩ (.int .i32 1) := ⟨_, rfl⟩
  rw [← hW1] at HL HD HF U1
  clear hW1 B1 hB hown hne
  have hnot : ∀ (x : Bool) (w : World), (Op.unary .not (.bool x)).run Tryz.prog w = .ok (.bool (!x)) w := fun _ _ => rfl
  go_enter_defers Tryz.func116, Tryz.ntmps116
  go_wp2_with (first
    | (go_at_call 145; with_reducible refine HL.out.mono ?_; rintro e w1 ⟨rfl, rfl⟩)
    | (go_at_call 115; with_reducible refine HD.out.mono ?_; rintro e w2 ⟨rfl, rfl⟩)
    | (go_at_fn 84; fail))
  refine HF.out.mono ?_
  rintro e w3 ⟨rfl, hc3, h, B3, R3⟩
  have f0 := B3.cell (i := 0) rfl
  have f1 := B3.cell (i := 1) rfl
  have z0 := B3.frozen 0
  have z1 := B3.frozen 1
  go_wp2
  refine leaves_cons (f := 147) (args := #[.pointer (some ⟨g, 0, none⟩), .bool true]) (by simp) (by simp [go_sem]) ?_
  refine (store_deferred ⟨g, 0, none⟩ (.int .u32 0) .returning _ f0 z0).mono ?_
  rintro e u' w'' ⟨rfl, rfl, rfl⟩
  have B4 : Blk (w3.drew.setCell ⟨g, 0, none⟩ (.int .u32 1)) g 115 (rpC 1 1 (ifc h) nsl) := B3.drew.set 0 _
  have U4 := Upd.setCell w3.drew g 0 (.int .u32 1)
  refine leaves_cons (f := 146) (args := #[.pointer (some ⟨g, 1, none⟩)]) (by simp [settle]) (by simp [go_sem]) ?_
  refine (unlock_deferred ⟨g, 1, none⟩ _ _ (B4.cell rfl) (B4.frozen 1)).mono ?_
  rintro e u' w'' ⟨rfl, rfl, rfl⟩
  have B5 : Blk ((w3.drew.setCell ⟨g, 0, none⟩ (.int .u32 1)).setCell ⟨g, 1, none⟩ (.int .i32 0)) g 115 (rpC 1 0 (ifc h) nsl) := B4.set 1 _
  have U5 := Upd.setCell (w3.drew.setCell ⟨g, 0, none⟩ (.int .u32 1)) g 1 (.int .i32 0)
  have R3' : Rpl w3.drew h := R3.kept ((Below.refl _ _).drew)
  have HH : Chg g g w ((w3.drew.setCell ⟨g, 0, none⟩ (.int .u32 1)).setCell ⟨g, 1, none⟩ (.int .i32 0)) ∧ ∃ h, Blk ((w3.drew.setCell ⟨g, 0, none⟩ (.int .u32 1)).setCell ⟨g, 1, none⟩ (.int .i32 0)) g 115 (rpC 1 0 (ifc h) nsl) ∧ Rpl ((w3.drew.setCell ⟨g, 0, none⟩ (.int .u32 1)).setCell ⟨g, 1, none⟩ (.int .i32 0)) h :=
    ⟨(((Chg.upd1 U1.out g).trans hc3).drew.trans (Chg.upd1 U4 g)).trans (Chg.upd1 U5 g), h, B5, ((R3'.upd B3.drew (by decide) (by decide) U4).upd B4 (by decide) (by decide) U5)⟩
  have HH := Lib.hid HH
  clear B5 U5 R3' U4 B4 B3 R3 hc3
  simp [Leaves, settle, results, Tryz.results116]
  exact HH.out

set_option maxHeartbeats 1600000 in
theorem do_any (g : Nat) (A : Option Addr) (c : Nat) (w : World) (hB : Blk w g 115 (rpC 0 0 .nilIface (.slice A 6 c))) (hown : OwnT w 0 (.slice A 6 c) 6 r6) (hne : Value.ownBlock (.slice A 6 c) ≠ some g) :
    Calls Tryz.prog 83 #[.pointer (some ⟨g, 0, none⟩), .func (.func 84) #[.pointer (some ⟨g, 0, none⟩)] #[]] w fun e w' => e = .returned (.tuple #[]) ∧ Chg g g w w' ∧ ∃ h, Blk w' g 115 (rpC 1 0 (ifc h) nsl) ∧ Rpl w' h := by
  have HD := Lib.hid (load_any ⟨g, 0, none⟩ 0 w (hB.cell rfl))
  have HS := Lib.hid (slow_any g A c w hB hown hne)
  have hnot : ∀ (x : Bool) (w : World), (Op.unary .not (.bool x)).run Tryz.prog w = .ok (.bool (!x)) w := fun _ _ => rfl
  clear hB hown hne
  go_enter Tryz.func83, Tryz.ntmps83
  go_wp2_with (first
    | (go_at_call 115; with_reducible refine HD.out.mono ?_; rintro e w2 ⟨rfl, rfl⟩)
    | (go_at_call 116; with_reducible refine HS.out.mono ?_; rintro e w3 ⟨rfl, hc3, h, B3, R3⟩))
  go_end0
  exact ⟨rfl, hc3, h, B3, R3⟩
end Go.Proofs.YtcepigekibidfaaGreatDoor
