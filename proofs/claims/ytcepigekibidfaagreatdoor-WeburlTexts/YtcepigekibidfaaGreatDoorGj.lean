/-
  What the closure of host.brackets does: pieces to base sixteen with colons between, onto the text that it holds; nothing else turns. Condition: the library's tables; at most eight pieces.
  What host.brackets answers: an IPv6 as it is written; nothing that was there turns. Condition: eight pieces below 65536; the library's tables.
  What host.parseBrackets and host.Parse answer; nothing that was there turns. Condition: texts of at most 10000000 bytes; the library's tables.
  What the statements' own based, Decimal and Text4 answer; nothing that was there turns. Condition: numbers below 2^32, bases from eight to sixteen.
  The mathematics of names: what stays as it is, what is decoded, what may not be. No program, no condition.
  The mathematics of numbers to a base, and of an IPv4's text. No program, no condition.
  The mathematics of an IPv6's text: what is written is read. No program, no condition.
-/
import Derived.Test.YtcepigekibidfaaGreatDoorGi
namespace Go.Proofs.YtcepigekibidfaaGreatDoor
open Go.RowKit

/-- Numbers to base sixteen with colons between. -/
def hxs (x : Nat → Nat) : Nat → List UInt8
  | 0 => []
  | k + 1 => hxs x k ++ (if k = 0 then [] else [58]) ++ hexL (x k)
theorem hexL_len4 (u : Nat) (h : u < 65536) : (hexL u).length ≤ 4 := by
  rw [hexL]
  split
  · simp
  · rw [hexL]
    split
    · simp
    · rw [hexL]
      split
      · simp
      · rw [hexL]
        split
        · simp
        · omega
theorem hxs_len (x : Nat → Nat) (hx : ∀ i, x i < 65536) : ∀ k, (hxs x k).length ≤ 5 * k
  | 0 => by simp [hxs]
  | k + 1 => by
    have ih := hxs_len x hx k
    have h1 := hexL_len4 (x k) (hx k)
    rw [hxs, List.length_append, List.length_append]
    split
    · simp
      omega
    · simp
      omega
theorem Own.upd {w w' : World} {B n g : Nat} {v : Value} {l : List UInt8} {t : TypeId} {C : List Value} (h : Own w B v n l) (hu : Upd g w w') (hg : Blk w g t C) (ht : t ≠ 5) : Own w' B v n l := by
  refine ⟨h.1, ?_⟩
  rcases h.2 with h2 | ⟨k, cap, cur, hv, hk, hh, r⟩
  · exact .inl h2
  · refine .inr ⟨k, cap, cur, hv, hk, ?_, r⟩
    rw [hu.block k (fun e => ?_)]
    · exact hh
    · subst e
      have h2 : w.heap[k]? = some (.cells C.toArray t (0, 0)) := hg
      rw [h2] at hh
      cases hh
      exact ht rfl
theorem size39 : (Tryz.prog.info? 36).map (·.size) = some 1 := by kernel_rfl

/-- What the closure holds: the pieces' block, its text's variable and row. -/
structure Cl (w0 : World) (g1 g3 : Nat) (C : List Value) (w : World) (v : Value) (n : Nat) (L : List UInt8) : Prop where
  kept : Kept w0 w
  arr : Blk w g1 62 C
  var : Blk w g3 36 [v]
  own : Own w w0.heap.size v n L
theorem Cl.cell {w0 : World} {g1 g3 : Nat} {C : List Value} {w : World} {v : Value} {n : Nat} {L : List UInt8} (h : Cl w0 g1 g3 C w v n L) : w.cell? ⟨g3, 0, none⟩ = some v := h.var.cell rfl
theorem Cl.num {w0 : World} {g1 g3 : Nat} {C : List Value} {w : World} {v : Value} {n : Nat} {L : List UInt8} (h : Cl w0 g1 g3 C w v n L) {k x : Nat} (hx : C[k]? = some (.int .u16 (x : Int))) : w.cell? ⟨g1, k, none⟩ = some (.int .u16 (x : Int)) := h.arr.cell hx

set_option maxHeartbeats 8000000 in
set_option maxRecDepth 100000 in
theorem clo_any (w0 : World) (ht : Tabs w0) (g1 g3 : Nat) (hg3 : w0.heap.size ≤ g3) (C : List Value) (x : Nat → Nat) (hx : ∀ i, x i < 65536) (o n c : Nat) (hn : n ≤ 8) (hC : ∀ j, j < n → C[o + j]? = some (.int .u16 (x j : Int)))
    (A : Option Addr) (hA : 0 < n → A = some ⟨g1, o, none⟩) (w : World) (v : Value) (N : Nat) (L : List UInt8) (hN : N ≤ 1000) (h : Cl w0 g1 g3 C w v N L) :
    Calls Tryz.prog 152 #[.slice A n c, .pointer (some ⟨g3, 0, none⟩)] w fun e w' => e = .returned (.tuple #[]) ∧ ∃ v', Cl w0 g1 g3 C w' v' (N + (hxs x n).length) (L ++ hxs x n) := by
  have HT := Lib.hid ht
  have HC := Lib.hid hC
  have HX := Lib.hid hx
  have hlen : Hid (∀ k, k ≤ n → (hxs x k).length ≤ 40) := fun k hk => by have := hxs_len x hx k; omega
  have HA := Lib.hid hA
  clear ht hC hx hA
  go_enter Tryz.func152, Tryz.ntmps152
  go_wp2_with fail
  go_loopw [7] (fun i wr => ∃ (k : Nat) (v' : Value), k ≤ n ∧ i = .int .i64 (k : Int) ∧ Cl w0 g1 g3 C wr v' (N + (hxs x k).length) (L ++ hxs x k)) (fun i _ => n - (intOf i).toNat)
  case atStart => exact ⟨0, v, by omega, rfl, by simpa [hxs] using h⟩
  case round =>
    obtain ⟨k, v', hk, rfl, hcl⟩ := hrel
    clear h
    have hLl := hlen.out k hk
    obtain ⟨M, hM⟩ : ∃ M, M = L ++ hxs x k := ⟨_, rfl⟩
    obtain ⟨NM, hNM⟩ : ∃ NM, NM = N + (hxs x k).length := ⟨_, rfl⟩
    rw [← hM, ← hNM] at hcl
    have hNM9 : NM ≤ 1040 := by omega
    have HMM := Lib.hid (And.intro hM hNM)
    clear hM hNM hLl
    by_cases hlt : k < n
    · have hki : (k : Int) < (n : Int) := by omega
      obtain ⟨y, hy⟩ : ∃ y, y = x k := ⟨_, rfl⟩
      have hcn := hcl.num (HC.out k hlt)
      have hy9 := HX.out k
      rw [← hy] at hcn hy9
      have hAA := HA.out (by omega)
      subst hAA
      have hnext : Hid (hxs x (k + 1) = hxs x k ++ (if k = 0 then [] else [58]) ++ hexL y) := by show _ = _; rw [hxs, hy]
      have hcv := hcl.cell
      have hkz := hcl.kept.size
      obtain ⟨A', c', rfl, hc', hs'⟩ := hcl.own.form
      have hwr : IntKind.u64.wrap (y : Int) = (y : Int) := by rw [IntKind.wrap_u64]; omega
      clear hy hs' hc'
      by_cases hk0 : k = 0
      · have hk0i : ¬ (0 : Int) < (k : Int) := by omega
        have hap := Lib.hid (append16 w0.heap.size NM y hy9 _ M wr hcl.own hkz (by omega) (HT.out.kp hcl.kept))
        have hn2 : Hid (hxs x (k + 1) = hxs x k ++ hexL y) := by show _ = _; rw [hnext.out, if_pos hk0]; simp
        have HK0 := Lib.hid hk0
        clear hnext hk0
        go_wp2_with (first
          | (go_at_call 153; with_reducible refine hap.out.mono ?_; rintro e w5 ⟨v5, rfl, hown5, hb5, hkb5⟩; obtain ⟨A5, c5, rfl, hc5, hs5⟩ := hown5.form; have bv5 := hcl.var.but hkb5 (by decide))
          | ((with_reducible show wpList _ _ _ (⟨none, .store 36 (.tmp 1) _, _, _, _, _⟩ :: _) _ _); refine wp_set _ rfl 36 (.tmp 1) (.tmp 20) rfl g3 0 36 _ _ rfl rfl rfl rfl bv5 (by simp) size39 ?_; intro w6 B6 U6; simp only [Act.put]))
        go_roundw
        case rel =>
          have hne : g1 ≠ g3 := by
            intro e
            subst e
            have h1 : wr.heap[g1]? = _ := hcl.arr
            have h2 : wr.heap[g1]? = _ := hcl.var
            rw [h1] at h2
            cases h2
          refine ⟨k + 1, _, by omega, by go_num, (hcl.kept.base hb5).base (U6.below hg3), ((hcl.arr.but hkb5 (by decide)).upd U6 hne), B6, ?_⟩
          rw [hn2.out, List.length_append, ← Nat.add_assoc, ← HMM.out.2, ← List.append_assoc, ← HMM.out.1]
          exact hown5.upd U6 bv5 (by decide)
        case measure => simp [intOf]; omega
      · have hk0i : (0 : Int) < (k : Int) := by omega
        have hn2 : Hid (hxs x (k + 1) = hxs x k ++ ([58] ++ hexL y)) := by show _ = _; rw [hnext.out, if_neg hk0]; simp
        clear hnext
        have hne : Hid (g1 ≠ g3) := by
          intro e
          subst e
          have h1 : wr.heap[g1]? = _ := hcl.arr
          have h2 : wr.heap[g1]? = _ := hcl.var
          rw [h1] at h2
          cases h2
        go_wp2_with (first
          | (at_builtin; refine wp_appK _ rfl (.tmp 14) (.tmp 15) rfl w0.heap.size _ NM M rfl (hcl.own.alloc _) (wr.heap.size + 1) _ 1 1 [58] rfl (Bs.one' _ _ _ rfl) (by omega) (by simp; omega) ?_; intro v4 w4 hown4 hb4 hkb4; obtain ⟨A4, c4, rfl, hc4, hs4⟩ := hown4.form; have bv4 := (hcl.var.alloc _).but hkb4 (by decide); have ba4 := (hcl.arr.alloc _).but hkb4 (by decide); have hkp4 := hcl.kept.base (((Below.refl _ _).alloc hkz _).trans hb4))
          | ((with_reducible show wpList _ _ _ (⟨none, .store 36 (.tmp 1) (.tmp 16), _, _, _, _⟩ :: _) _ _); refine wp_set _ rfl 36 (.tmp 1) (.tmp 16) rfl g3 0 36 _ _ rfl rfl rfl rfl bv4 (by simp) size39 ?_; intro w5 B5 U5; simp only [Act.put]; have hkp5 := hkp4.base (U5.below hg3); have hown5 := hown4.upd U5 bv4 (by decide); have ba5 := ba4.upd U5 hne.out; have hz5 := hkp5.size; have hcv5 := B5.cell (i := 0) rfl)
          | (go_at_call 153; with_reducible refine (append16 w0.heap.size (NM + 1) y hy9 _ (M ++ [58]) w5 hown5 hz5 (by omega) (HT.out.kp hkp5)).mono ?_; rintro e w6 ⟨v6, rfl, hown6, hb6, hkb6⟩; obtain ⟨A6, c6, rfl, hc6, hs6⟩ := hown6.form; have bv6 := B5.but hkb6 (by decide))
          | ((with_reducible show wpList _ _ _ (⟨none, .store 36 (.tmp 1) (.tmp 20), _, _, _, _⟩ :: _) _ _); refine wp_set _ rfl 36 (.tmp 1) (.tmp 20) rfl g3 0 36 _ _ rfl rfl rfl rfl bv6 (by simp) size39 ?_; intro w7 B7 U7; simp only [Act.put]))
        go_roundw
        case rel =>
          refine ⟨k + 1, _, by omega, by go_num, (hkp5.base hb6).base (U7.below hg3), ((ba5.but hkb6 (by decide)).upd U7 hne.out), B7, ?_⟩
          have e1 : N + (hxs x (k + 1)).length = NM + 1 + (hexL y).length := by
            rw [hn2.out, List.length_append, HMM.out.2]
            simp
            omega
          have e2 : L ++ hxs x (k + 1) = M ++ [58] ++ hexL y := by
            rw [hn2.out, HMM.out.1]
            simp
          rw [e1, e2]
          exact hown6.upd U7 bv6 (by decide)
        case measure => simp [intOf]; omega
    · have hk' : Hid (k = n) := by show k = n; omega
      have hki : ¬ (k : Int) < (n : Int) := by omega
      clear hk hlt
      go_wp2_with fail
      go_end0
      refine ⟨rfl, v', ?_⟩
      have e1 := HMM.out.1
      have e2 := HMM.out.2
      rw [hk'.out] at e1 e2
      rw [← e1, ← e2]
      exact hcl
end Go.Proofs.YtcepigekibidfaaGreatDoor
namespace Go.Proofs.YtcepigekibidfaaGreatDoor
open Go.RowKit

/-- An IPv6 as it is written, without brackets. -/
def text6 (a : List Nat) : List UInt8 := hxs (fun j => a.getD j 0) (longest a).1 ++ (if (longest a).1 < (longest a).2 then [58, 58] else []) ++ hxs (fun j => a.getD ((longest a).2 + j) 0) (8 - (longest a).2)
def brk (a : List Nat) : List UInt8 := [91] ++ text6 a ++ [93]

theorem slice38h (w : World) (g q : Nat) (h : q ≤ 8) : (Instr.sliceAt 62 (.pointer (some ⟨g, 0, none⟩)) none (some (.int .i64 (q : Int))) none).run Tryz.prog w = .ok (.slice (some ⟨g, 0, none⟩) q 8) w := by
  have hsz : ∀ w, (sizeOf 61).run Tryz.prog w = .ok 1 w := fun w => Tryz.sizeOf61 w
  simp [Instr.sliceAt, run_underlying Tryz.underlying62, Instr.sureAddr, Instr.sliceBounds, Instr.sliceBound, asIntOf, hsz, h, Addr.add_lit]
theorem bs_two (w : World) (x y : Int) (a b : UInt8) (hx : x = (a.toNat : Int)) (hy : y = (b.toNat : Int)) : Bs (w.alloc (.cells #[.int .u8 x, .int .u8 y] 5)) (w.heap.size + 1) (some ⟨w.heap.size, 0, none⟩) 2 [a, b] := by
  subst hx hy
  have := Bs.new w [a, b] #[vb a, vb b] rfl 2 rfl
  simpa [vb] using this
theorem own_one (w : World) (base : Nat) (hb : base ≤ w.heap.size) : Own (w.alloc (.cells #[.int .u8 91] 5)) base (.slice (some ⟨w.heap.size, 0, none⟩) 1 1) 1 [91] :=
  ⟨rfl, .inr ⟨w.heap.size, 1, #[.int .u8 91], rfl, hb, Go.heap_alloc_new w _, Nat.le_refl _, by decide, rfl, rfl⟩⟩
theorem Cl.step {w0 : World} {g1 g3 : Nat} {C : List Value} {w w' : World} {v : Value} {n : Nat} {L : List UInt8} (h : Cl w0 g1 g3 C w v n L) (hb : Below w.heap.size w w') : Cl w0 g1 g3 C w' v n L :=
  ⟨h.kept.step hb, h.arr.kept hb, h.var.kept hb, h.own.kept hb⟩
theorem Cl.size {w0 : World} {g1 g3 : Nat} {C : List Value} {w : World} {v : Value} {n : Nat} {L : List UInt8} (h : Cl w0 g1 g3 C w v n L) : w0.heap.size ≤ w.heap.size := h.kept.size
theorem cl_start {w0 w1 : World} {g1 : Nat} {C : List Value} (hk : Kept w0 w1) (hb : Blk w1 g1 62 C) :
    Cl w0 g1 (w1.heap.size + 1) C ((w1.alloc (.cells #[.int .u8 91] 5)).alloc (.cells #[.slice (some ⟨w1.heap.size, 0, none⟩) 1 1] 36)) (.slice (some ⟨w1.heap.size, 0, none⟩) 1 1) 1 [91] := by
  refine ⟨(hk.alloc _).alloc _, (hb.alloc _).alloc _, ?_, (own_one w1 w0.heap.size hk.size).alloc _⟩
  have h := Blk.new (w1.alloc (.cells #[.int .u8 91] 5)) 36 [.slice (some ⟨w1.heap.size, 0, none⟩) 1 1]
  simpa using h
/-- Bytes behind, the slice put back into the text's variable. -/
theorem Cl.set {w0 : World} {g1 g3 : Nat} {C : List Value} {w w4 w5 : World} {v v4 : Value} {n n' : Nat} {L L' : List UInt8} (h : Cl w0 g1 g3 C w v n L) (hg : w0.heap.size ≤ g3) (hb : Below w0.heap.size w w4) (hk : KeepsBut 5 w w4) (hown : Own w4 w0.heap.size v4 n' L') (B5 : Blk w5 g3 36 [v4]) (U5 : Upd g3 w4 w5) : Cl w0 g1 g3 C w5 v4 n' L' := by
  have hne : g1 ≠ g3 := by
    intro e
    subst e
    have h1 : w.heap[g1]? = _ := h.arr
    have h2 : w.heap[g1]? = _ := h.var
    rw [h1] at h2
    cases h2
  exact ⟨(h.kept.base hb).base (U5.below hg), (h.arr.but hk (by decide)).upd U5 hne, B5, hown.upd U5 (h.var.but hk (by decide)) (by decide)⟩
theorem hg3_of {w w1 : World} (h : w.heap.size ≤ w1.heap.size) : w.heap.size ≤ w1.heap.size + 1 := by omega
theorem below_alloc (w : World) (o : Obj) : Below w.heap.size w (w.alloc o) := (Below.refl _ _).alloc (Nat.le_refl _) _

set_option maxHeartbeats 8000000 in
set_option maxRecDepth 100000 in
theorem brk_any (a : List Nat) (ha : a.length = 8) (hlt : ∀ x ∈ a, x < 65536) (w : World) (ht : Tabs w) : Calls Tryz.prog 122 #[.agg (vhs a).toArray] w fun e w' => e = .returned (.string (str (brk a))) ∧ Below w.heap.size w w' := by
  have HL := Lib.hid (fun w => longest_any a ha w)
  have hle := longest_le a ha
  have hR : Hid (brk a = [91] ++ (hxs (fun j => a.getD j 0) (longest a).1 ++ (if (longest a).1 < (longest a).2 then [58, 58] else []) ++ hxs (fun j => a.getD ((longest a).2 + j) 0) (8 - (longest a).2)) ++ [93]) := rfl
  obtain ⟨R, hR'⟩ : ∃ R, R = brk a := ⟨_, rfl⟩
  rw [← hR'] at hR ⊢
  obtain ⟨fr, hfr⟩ : ∃ f, f = (longest a).1 := ⟨_, rfl⟩
  obtain ⟨tu, hto⟩ : ∃ f, f = (longest a).2 := ⟨_, rfl⟩
  rw [← hfr, ← hto] at hR hle HL
  have hs38 := Lib.hid (size38' a ha)
  have hx : Hid (∀ i, a.getD i 0 < 65536) := fun i => by
    rw [List.getD_eq_getElem?_getD]
    cases h : a[i]? with
    | none => simp
    | some y => exact hlt y (List.mem_of_getElem? h)
  have hC1 : Hid (∀ j, j < fr → (vhs a)[0 + j]? = some (.int .u16 ((a.getD j 0 : Nat) : Int))) := fun j hj => by rw [Nat.zero_add]; exact vhs_at a j (by omega)
  have hC2 : Hid (∀ j, j < 8 - tu → (vhs a)[tu + j]? = some (.int .u16 ((a.getD (tu + j) 0 : Nat) : Int))) := fun j hj => vhs_at a (tu + j) (by omega)
  have hx2 : Hid (∀ i, a.getD (tu + i) 0 < 65536) := fun i => hx.out (tu + i)
  have HT := Lib.hid ht
  obtain ⟨hfr8, hto8⟩ : fr ≤ 8 ∧ tu ≤ 8 := by omega
  clear hfr hto hR' ht hlt ha
  have hsl1 : ∀ (w' : World) (g : Nat), (Instr.sliceAt 62 (.pointer (some ⟨g, 0, none⟩)) none (some (.int .i64 (fr : Int))) none).run Tryz.prog w' = .ok (.slice (some ⟨g, 0, none⟩) fr 8) w' := fun w' g => slice38h w' g fr hfr8
  obtain ⟨o, ho⟩ : ∃ o, o = if 8 = tu then 0 else tu := ⟨_, rfl⟩
  obtain ⟨d, hd⟩ : ∃ d, d = 8 - tu := ⟨_, rfl⟩
  have hsl2 : ∀ (w' : World) (g : Nat), (Instr.sliceAt 62 (.pointer (some ⟨g, 0, none⟩)) (some (.int .i64 (tu : Int))) none none).run Tryz.prog w' = .ok (.slice (some ⟨g, o, none⟩) d d) w' := fun w' g => slice38' w' g tu o d hto8 ho hd
  have hod : Hid (0 < d → o = tu) := fun h => by rw [ho, if_neg (by omega)]
  have hd8 : d ≤ 8 := by omega
  rw [← hd] at hC2 hR
  have HD := Lib.hid (And.intro ho hd)
  clear ho hd
  have hX1 : Hid ((hxs (fun j => a.getD j 0) fr).length ≤ 40) := by have := hxs_len _ hx.out fr; show _ ≤ _; omega
  have hX2 : Hid ((hxs (fun j => a.getD (tu + j) 0) d).length ≤ 40) := by have := hxs_len _ hx2.out d; show _ ≤ _; omega
  have HC1 : Hid (∀ g1 g3 w' v N L, w.heap.size ≤ g3 → N ≤ 1000 → Cl w g1 g3 (vhs a) w' v N L → Calls Tryz.prog 152 #[.slice (some ⟨g1, 0, none⟩) fr 8, .pointer (some ⟨g3, 0, none⟩)] w' fun e w2 => e = .returned (.tuple #[]) ∧ ∃ v', Cl w g1 g3 (vhs a) w2 v' (N + (hxs (fun j => a.getD j 0) fr).length) (L ++ hxs (fun j => a.getD j 0) fr)) :=
    fun g1 g3 w' v N L h1 h2 h3 => clo_any w HT.out g1 g3 h1 (vhs a) _ hx.out 0 fr 8 hfr8 hC1.out _ (fun _ => rfl) w' v N L h2 h3
  have HC2 : Hid (∀ g1 g3 w' v N L, w.heap.size ≤ g3 → N ≤ 1000 → Cl w g1 g3 (vhs a) w' v N L → Calls Tryz.prog 152 #[.slice (some ⟨g1, o, none⟩) d d, .pointer (some ⟨g3, 0, none⟩)] w' fun e w2 => e = .returned (.tuple #[]) ∧ ∃ v', Cl w g1 g3 (vhs a) w2 v' (N + (hxs (fun j => a.getD (tu + j) 0) d).length) (L ++ hxs (fun j => a.getD (tu + j) 0) d)) :=
    fun g1 g3 w' v N L h1 h2 h3 => clo_any w HT.out g1 g3 h1 (vhs a) (fun j => a.getD (tu + j) 0) hx2.out tu d d hd8 hC2.out (some ⟨g1, o, none⟩) (fun h => by rw [hod.out h]) w' v N L h2 h3
  obtain ⟨X1, hX1'⟩ : ∃ X, X = hxs (fun j => a.getD j 0) fr := ⟨_, rfl⟩
  obtain ⟨X2, hX2'⟩ : ∃ X, X = hxs (fun j => a.getD (tu + j) 0) d := ⟨_, rfl⟩
  rw [← hX1'] at HC1 hX1 hR
  rw [← hX2'] at HC2 hX2 hR
  obtain ⟨n1, hn1⟩ : ∃ n, n = X1.length := ⟨_, rfl⟩
  obtain ⟨n2, hn2⟩ : ∃ n, n = X2.length := ⟨_, rfl⟩
  rw [← hn1] at HC1 hX1
  rw [← hn2] at HC2 hX2
  have hn19 : n1 ≤ 40 := hX1.out
  have hn29 : n2 ≤ 40 := hX2.out
  clear hX1' hX2' hn1 hn2 hX1 hX2 hC1 hC2 hx hx2 hod
  by_cases hft : fr < tu
  · have hfti : (fr : Int) < (tu : Int) := by omega
    rw [if_pos hft] at hR
    go_enter Tryz.func122, Tryz.ntmps122
    go_wp2_with (first
      | ((with_reducible show wpList _ _ _ (⟨some 1, .box _ _, _, _, _, _⟩ :: _) _ _); refine wp_box _ rfl 62 _ rfl (vhs a) rfl ?_; intro w1 g1 B1 F1; simp only [Act.put, List.setIfInBounds_toArray, List.set_cons_zero, List.set_cons_succ]; have hk1 := kept_of F1.below; have cl3 := cl_start hk1 B1; have hg3 := hg3_of hk1.size)
      | ((with_reducible show wpList _ _ _ (⟨some 10, .load 62 _, _, _, _, _⟩ :: _) _ _); refine wp_get _ rfl 62 (.tmp 1) rfl g1 0 (vhs a) _ rfl cl3.arr.whole Tryz.underlying62 rfl hs38.out ?_; simp only [Act.put, List.setIfInBounds_toArray, List.set_cons_zero, List.set_cons_succ])
      | (go_at_call 154; with_reducible refine (HL.out _).mono ?_; rintro e w4 ⟨rfl, hb4⟩; have cl4 := Lib.hid (cl3.step hb4); clear hb4 cl3)
      | (go_at_call 152; first
        | (with_reducible refine (HC1.out g1 _ w4 _ 1 [91] hg3 (by omega) cl4.out).mono ?_; rintro e w5 ⟨rfl, v5, cl5⟩; have cv5 := cl5.cell; obtain ⟨A5, c5, rfl, hc5, hs5⟩ := cl5.own.form; have CL5 := Lib.hid cl5; have hz5 := cl5.size; clear hs5 cl5)
        | (with_reducible refine (HC2.out g1 _ w7 _ (1 + n1 + 2) ([91] ++ X1 ++ [58, 58]) hg3 (by omega) CL7.out).mono ?_; rintro e w8 ⟨rfl, v8, cl8⟩; have cv8 := cl8.cell; obtain ⟨A8, c8, rfl, hc8, hs8⟩ := cl8.own.form; have CL8 := Lib.hid cl8; have hz8 := cl8.size; clear hs8 cl8))
      | ((with_reducible show wpList _ _ _ (⟨some 23, .call _, _, _, _, _⟩ :: _) _ _); refine wp_appK _ rfl (.tmp 21) (.tmp 22) rfl w.heap.size _ _ _ rfl (CL5.out.own.alloc _) (w5.heap.size + 1) _ 2 2 [58, 58] rfl (bs_two _ _ _ _ _ rfl rfl) (by omega) (by simp; omega) ?_; intro v6 w6 hown6 hb6 hkb6; obtain ⟨A6, c6, rfl, hc6, hs6⟩ := hown6.form; have bv6 := (CL5.out.var.alloc _).but hkb6 (by decide); simp only [Act.put, List.setIfInBounds_toArray, List.set_cons_zero, List.set_cons_succ])
      | ((with_reducible show wpList _ _ _ (⟨none, .store 36 (.tmp 3) (.tmp 23), _, _, _, _⟩ :: _) _ _); refine wp_set _ rfl 36 (.tmp 3) (.tmp 23) rfl (w1.heap.size + 1) 0 36 _ _ rfl rfl rfl rfl bv6 (by simp) size39 ?_; intro w7 B7 U7; simp only [Act.put]; have CL7 := Lib.hid ((CL5.out.step (below_alloc _ _)).set hg3 hb6 hkb6 hown6 B7 U7))
      | ((with_reducible show wpList _ _ _ (⟨some 30, .call _, _, _, _, _⟩ :: _) _ _); refine wp_app _ rfl (.tmp 28) (.tmp 29) rfl w.heap.size _ _ _ rfl (CL8.out.own.alloc _) (w8.heap.size + 1) _ 1 1 [93] rfl (Bs.one' _ _ _ rfl) (by omega) (by simp; omega) ?_; intro v9 w9 hown9 hb9; obtain ⟨A9, c9, rfl, hc9, hs9⟩ := hown9.form; simp only [Act.put, List.setIfInBounds_toArray, List.set_cons_zero, List.set_cons_succ])
      | ((with_reducible show wpList _ _ _ (⟨some 31, .convert _ _ _, _, _, _, _⟩ :: _) _ _); refine wp_str _ rfl (.tmp 30) rfl _ A9 _ c9 _ rfl hs9 ?_; simp only [Act.put, List.setIfInBounds_toArray, List.set_cons_zero, List.set_cons_succ]))
    go_ret
    refine ⟨?_, CL8.out.kept.base (((Below.refl _ _).alloc hz8 _).trans hb9)⟩
    rw [hR.out]
    simp
  · have hfti : ¬ (fr : Int) < (tu : Int) := by omega
    rw [if_neg hft] at hR
    go_enter Tryz.func122, Tryz.ntmps122
    go_wp2_with (first
      | ((with_reducible show wpList _ _ _ (⟨some 1, .box _ _, _, _, _, _⟩ :: _) _ _); refine wp_box _ rfl 62 _ rfl (vhs a) rfl ?_; intro w1 g1 B1 F1; simp only [Act.put, List.setIfInBounds_toArray, List.set_cons_zero, List.set_cons_succ]; have hk1 := kept_of F1.below; have cl3 := cl_start hk1 B1; have hg3 := hg3_of hk1.size)
      | ((with_reducible show wpList _ _ _ (⟨some 10, .load 62 _, _, _, _, _⟩ :: _) _ _); refine wp_get _ rfl 62 (.tmp 1) rfl g1 0 (vhs a) _ rfl cl3.arr.whole Tryz.underlying62 rfl hs38.out ?_; simp only [Act.put, List.setIfInBounds_toArray, List.set_cons_zero, List.set_cons_succ])
      | (go_at_call 154; with_reducible refine (HL.out _).mono ?_; rintro e w4 ⟨rfl, hb4⟩; have cl4 := Lib.hid (cl3.step hb4); clear hb4 cl3)
      | (go_at_call 152; first
        | (with_reducible refine (HC1.out g1 _ w4 _ 1 [91] hg3 (by omega) cl4.out).mono ?_; rintro e w5 ⟨rfl, v5, cl5⟩; have cv5 := cl5.cell; obtain ⟨A5, c5, rfl, hc5, hs5⟩ := cl5.own.form; have CL5 := Lib.hid cl5; have hz5 := cl5.size; clear hs5 cl5)
        | (with_reducible refine (HC2.out g1 _ w5 _ (1 + n1) ([91] ++ X1) hg3 (by omega) CL5.out).mono ?_; rintro e w8 ⟨rfl, v8, cl8⟩; have cv8 := cl8.cell; obtain ⟨A8, c8, rfl, hc8, hs8⟩ := cl8.own.form; have CL8 := Lib.hid cl8; have hz8 := cl8.size; clear hs8 cl8))
      | ((with_reducible show wpList _ _ _ (⟨some 30, .call _, _, _, _, _⟩ :: _) _ _); refine wp_app _ rfl (.tmp 28) (.tmp 29) rfl w.heap.size _ _ _ rfl (CL8.out.own.alloc _) (w8.heap.size + 1) _ 1 1 [93] rfl (Bs.one' _ _ _ rfl) (by omega) (by simp; omega) ?_; intro v9 w9 hown9 hb9; obtain ⟨A9, c9, rfl, hc9, hs9⟩ := hown9.form; simp only [Act.put, List.setIfInBounds_toArray, List.set_cons_zero, List.set_cons_succ])
      | ((with_reducible show wpList _ _ _ (⟨some 31, .convert _ _ _, _, _, _, _⟩ :: _) _ _); refine wp_str _ rfl (.tmp 30) rfl _ A9 _ c9 _ rfl hs9 ?_; simp only [Act.put, List.setIfInBounds_toArray, List.set_cons_zero, List.set_cons_succ]))
    go_ret
    refine ⟨?_, CL8.out.kept.base (((Below.refl _ _).alloc hz8 _).trans hb9)⟩
    rw [hR.out]
    simp
end Go.Proofs.YtcepigekibidfaaGreatDoor
namespace Go.Proofs.YtcepigekibidfaaGreatDoor
open Go.RowKit

theorem ip6_ok (l : List UInt8) (a : List Nat) (h : ip6 l = some a) : a.length = 8 ∧ ∀ x ∈ a, x < 65536 := by
  unfold ip6 at h
  rw [Option.bind_eq_some_iff] at h
  obtain ⟨f, hf, h⟩ := h
  rw [Option.bind_eq_some_iff] at h
  obtain ⟨b, hb, h⟩ := h
  split at h
  · rename_i hc
    cases h
    refine ⟨by simp; omega, fun x hx => ?_⟩
    rcases List.mem_append.1 hx with hx | hx
    · rcases List.mem_append.1 hx with hx | hx
      · exact (pcs_len _ _ f hf).2 x hx
      · have := List.eq_of_mem_replicate hx
        omega
    · exact (pcs_len _ _ b hb).2 x hx
  · cases h
/-- How a text that begins with a bracket is written. -/
def prb (l : List UInt8) : List UInt8 × Bool := if Lib.hasSuffix (l.drop 1) [93] then (match ip6 (Lib.trimSuffix (l.drop 1) [93]) with | some a => (brk a, false) | none => ([], true)) else ([], true)
/-- Parse: how a host is written; true: it is none. -/
def prs (l : List UInt8) : List UInt8 × Bool := if Lib.hasPrefix l [91] then prb l else nam (dec l)

theorem trim_len (s p : List UInt8) : (Lib.trimSuffix s p).length ≤ s.length := by
  unfold Lib.trimSuffix
  split
  · simp
  · exact Nat.le_refl _

set_option maxHeartbeats 8000000 in
set_option maxRecDepth 100000 in
theorem prb_any (l : List UInt8) (w : World) (hl : l.length ≤ 10000000) (h1 : 1 ≤ l.length) (ht : Tabs w) : Calls Tryz.prog 90 #[.string (str l)] w fun e w' => e = .returned (prsV (prb l)) ∧ Below w.heap.size w w' := by
  have HT := Lib.hid ht
  have hsz := str_size l
  have hcut := str_drop l 1 l.length rfl h1
  have hR : Hid (prb l = if Lib.hasSuffix (l.drop 1) [93] then (match ip6 (Lib.trimSuffix (l.drop 1) [93]) with | some a => (brk a, false) | none => ([], true)) else ([], true)) := rfl
  obtain ⟨R, hR'⟩ : ∃ R, R = prb l := ⟨_, rfl⟩
  rw [← hR'] at hR ⊢
  have hdl : (l.drop 1).length ≤ 10000000 := by rw [List.length_drop]; omega
  obtain ⟨D, hD⟩ : ∃ D, D = l.drop 1 := ⟨_, rfl⟩
  rw [← hD] at hcut hR hdl
  have HS : Calls Tryz.prog 120 #[.string (str D), .string ⟨#[93]⟩] w fun e w' => e = .returned (.tuple #[.string (str (Lib.trimSuffix D [93])), .bool (Lib.hasSuffix D [93])]) ∧ w' = w := Tryz.strings_CutSuffix (str D) ⟨#[93]⟩ w (by rw [str_size]; omega)
  have htl := trim_len D [93]
  obtain ⟨T, hT⟩ : ∃ T, T = Lib.trimSuffix D [93] := ⟨_, rfl⟩
  rw [← hT] at HS htl hR
  have H6 := Lib.hid (six_any T w (by omega) ht)
  have hok := ip6_ok T
  obtain ⟨S, hS⟩ : ∃ S, S = l.length := ⟨_, rfl⟩
  rw [← hS] at hsz hcut h1 hl
  have h1i : (1 : Int) ≤ (S : Int) := by omega
  clear hD hT hS hR' ht htl
  cases hx : Lib.hasSuffix D [93] with
  | false =>
    have hR2 : Hid (R = ([], true)) := by show _ = _; rw [hR.out, hx]; rfl
    rw [hx] at HS
    have HS := Lib.hid HS
    clear hx hR hok H6
    go_enter Tryz.func90, Tryz.ntmps90
    go_wp2_with (go_at_call 120; with_reducible refine HS.out.mono ?_; rintro e w1 ⟨rfl, rfl⟩)
    go_ret2
    rw [hR2.out]
    exact ⟨rfl, Below.refl _ _⟩
  | true =>
    rw [hx] at HS
    have HS := Lib.hid HS
    cases ho : ip6 T with
    | none =>
      have hR2 : Hid (R = ([], true)) := by show _ = _; rw [hR.out, hx, ho]; rfl
      rw [ho] at H6
      have H62 : Hid (Calls Tryz.prog 121 #[.string (str T)] w fun e w' => e = .returned (.tuple #[.agg (vhs zero8).toArray, .int .i64 7]) ∧ Below w.heap.size w w') := H6.out
      clear hx hR hok H6 ho
      go_enter Tryz.func90, Tryz.ntmps90
      go_wp2_with (first
        | (go_at_call 120; with_reducible refine HS.out.mono ?_; rintro e w1 ⟨rfl, rfl⟩)
        | (go_at_call 121; with_reducible refine H62.out.mono ?_; rintro e w2 ⟨rfl, hb2⟩; have hk2 := kept_of hb2; clear hb2)
        | ((with_reducible show wpList _ _ _ (⟨some 6, .alloc _, _, _, _, _⟩ :: _) _ _); refine wp_new _ rfl 62 rfl _ type38 ?_; intro w3 g3 B3 F3; simp only [Act.put, List.setIfInBounds_toArray, List.set_cons_zero, List.set_cons_succ])
        | ((with_reducible show wpList _ _ _ (⟨none, .store 62 (.tmp 6) _, _, _, _, _⟩ :: _) _ _); refine wp_putAll _ rfl 62 (.tmp 6) (.tmp 19) rfl g3 62 _ (vhs zero8) rfl rfl B3 rfl size38 (Hs_one _) ?_; intro w4 B4 U4; simp only [Act.put]))
      go_ret2
      rw [hR2.out]
      exact ⟨rfl, (hk2.step F3.below).base (U4.below (by rw [F3.is]; exact hk2.size))⟩
    | some a =>
      have hR2 : Hid (R = (brk a, false)) := by show _ = _; rw [hR.out, hx, ho]; rfl
      rw [ho] at H6
      have H62 : Hid (Calls Tryz.prog 121 #[.string (str T)] w fun e w' => e = .returned (.tuple #[.agg (vhs a).toArray, .int .i64 0]) ∧ Below w.heap.size w w') := H6.out
      obtain ⟨ha, hlt⟩ := hok a ho
      have hs38 := Lib.hid (size38' a ha)
      have haz : Hid ((vhs a).length = (vhs zero8).length) := by show _ = _; rw [Hs_len, ha]; rfl
      have HBr : Hid (∀ w', Kept w w' → Calls Tryz.prog 122 #[.agg (vhs a).toArray] w' fun e w2 => e = .returned (.string (str (brk a))) ∧ Below w'.heap.size w' w2) := fun w' hk => brk_any a ha hlt w' (HT.out.kp hk)
      clear hx hR hok H6 ho ha hlt
      go_enter Tryz.func90, Tryz.ntmps90
      go_wp2_with (first
        | (go_at_call 120; with_reducible refine HS.out.mono ?_; rintro e w1 ⟨rfl, rfl⟩)
        | (go_at_call 121; with_reducible refine H62.out.mono ?_; rintro e w2 ⟨rfl, hb2⟩; have hk2 := kept_of hb2; clear hb2)
        | ((with_reducible show wpList _ _ _ (⟨some 6, .alloc _, _, _, _, _⟩ :: _) _ _); refine wp_new _ rfl 62 rfl _ type38 ?_; intro w3 g3 B3 F3; simp only [Act.put, List.setIfInBounds_toArray, List.set_cons_zero, List.set_cons_succ])
        | ((with_reducible show wpList _ _ _ (⟨none, .store 62 (.tmp 6) _, _, _, _, _⟩ :: _) _ _); refine wp_putAll _ rfl 62 (.tmp 6) (.tmp 19) rfl g3 62 _ (vhs a) rfl rfl B3 haz.out hs38.out (Hs_one _) ?_; intro w4 B4 U4; simp only [Act.put]; have hk4 := (hk2.step F3.below).base (U4.below (by rw [F3.is]; exact hk2.size)))
        | ((with_reducible show wpList _ _ _ (⟨some 24, .load 62 _, _, _, _, _⟩ :: _) _ _); refine wp_get _ rfl 62 (.tmp 6) rfl g3 0 (vhs a) _ rfl B4.whole Tryz.underlying62 rfl hs38.out ?_; simp only [Act.put, List.setIfInBounds_toArray, List.set_cons_zero, List.set_cons_succ])
        | (go_at_call 122; with_reducible refine (HBr.out _ hk4).mono ?_; rintro e w5 ⟨rfl, hb5⟩; have hk5 := hk4.step hb5; clear hb5))
      go_ret2
      rw [hR2.out]
      exact ⟨rfl, hk5⟩

set_option maxHeartbeats 8000000 in
theorem parse_any (l : List UInt8) (w : World) (hl : l.length ≤ 10000000) (ht : Tabs w) : Calls Tryz.prog 63 #[.string (str l)] w fun e w' => e = .returned (prsV (prs l)) ∧ Below w.heap.size w w' := by
  have HT := Lib.hid ht
  have H1 : Calls Tryz.prog 89 #[.string (str l), .string ⟨#[91]⟩] w fun e w' => e = .returned (.bool (Lib.hasPrefix l [91])) ∧ w' = w := Tryz.strings_HasPrefix (str l) _ w
  cases hx : Lib.hasPrefix l [91] with
  | true =>
    have hR : prs l = prb l := by unfold prs; rw [if_pos hx]
    have hl1 : 1 ≤ l.length := by
      cases l with
      | nil => simp [Lib.hasPrefix] at hx
      | cons a r => simp
    have HB := prb_any l w hl hl1 ht
    rw [hx] at H1
    rw [← hR] at HB
    have HB := Lib.hid HB
    have H1 := Lib.hid H1
    unfold prsV at HB ⊢
    obtain ⟨o, ho⟩ : ∃ o, o = (prs l).1 := ⟨_, rfl⟩
    obtain ⟨e1, he1⟩ : ∃ e1, e1 = errV (prs l).2 := ⟨_, rfl⟩
    rw [← ho, ← he1] at HB ⊢
    clear hx hR hl1 ht ho he1
    go_enter Tryz.func63, Tryz.ntmps63
    go_wp2_with (first
      | (go_at_call 89; with_reducible refine H1.out.mono ?_; rintro e w1 ⟨rfl, rfl⟩)
      | (go_at_call 90; with_reducible refine HB.out.mono ?_; rintro e w2 ⟨rfl, hb2⟩))
    go_ret2
    exact ⟨rfl, hb2⟩
  | false =>
    have hR : prs l = nam (dec l) := by unfold prs; rw [if_neg (by simp [hx])]
    have HD := Lib.hid (decode_any l w (by omega))
    have hdl := dec_len l.length l (Nat.le_refl _)
    have HN : Hid (∀ w', Kept w w' → Calls Tryz.prog 91 #[.string (str (dec l))] w' fun e w2 => e = .returned (prsV (prs l)) ∧ Below w'.heap.size w' w2) := fun w' hk => by rw [hR]; exact nam_any (dec l) w' (by omega) (HT.out.kp hk)
    rw [hx] at H1
    have H1 := Lib.hid H1
    unfold prsV at HN ⊢
    obtain ⟨o, ho⟩ : ∃ o, o = (prs l).1 := ⟨_, rfl⟩
    obtain ⟨e1, he1⟩ : ∃ e1, e1 = errV (prs l).2 := ⟨_, rfl⟩
    obtain ⟨D, hD⟩ : ∃ D, D = dec l := ⟨_, rfl⟩
    rw [← ho, ← he1] at HN ⊢
    rw [← hD] at HN HD
    clear hx hR ht ho he1 hD hdl
    go_enter Tryz.func63, Tryz.ntmps63
    go_wp2_with (first
      | (go_at_call 89; with_reducible refine H1.out.mono ?_; rintro e w1 ⟨rfl, rfl⟩)
      | (go_at_call 92; with_reducible refine HD.out.mono ?_; rintro e w2 ⟨rfl, hb2⟩; have hk2 := kept_of hb2; clear hb2)
      | (go_at_call 91; with_reducible refine (HN.out _ hk2).mono ?_; rintro e w3 ⟨rfl, hb3⟩; have hk3 := hk2.step hb3; clear hb3))
    go_ret2
    exact ⟨rfl, hk3⟩
end Go.Proofs.YtcepigekibidfaaGreatDoor
namespace Go.Proofs.YtcepigekibidfaaGreatDoor
open Go.RowKit

/-- A number to a base. -/
def bsd (b n : Nat) : List UInt8 := if _h : n < b ∨ b < 2 then [hx n] else bsd b (n / b) ++ [hx (n % b)]
termination_by n
decreasing_by exact Nat.div_lt_self (by omega) (by omega)
theorem bsd_lt {b n : Nat} (h : n < b) : bsd b n = [hx n] := by rw [bsd, dif_pos (.inl h)]
theorem bsd_ge {b n : Nat} (hb : 2 ≤ b) (h : ¬ n < b) : bsd b n = bsd b (n / b) ++ [hx (n % b)] := by rw [bsd, dif_neg (by omega)]
theorem bsd_hexL (n : Nat) : bsd 16 n = hexL n := by
  induction n using Nat.strongRecOn with
  | _ n ih =>
    by_cases h : n < 16
    · rw [bsd_lt h, hexL_lt h]
    · rw [bsd_ge (by omega) h, hexL_ge h, ih (n / 16) (by omega)]
theorem bs_of (w : World) (m : Nat) (c : UInt8) (h : m = c.toNat) : Bs (w.alloc (.cells #[.int .u8 (m : Int)] 5)) (w.heap.size + 1) (some ⟨w.heap.size, 0, none⟩) 1 [c] := Bs.one' w _ c (by rw [h])

theorem dec_len_pow (j : Nat) : ∀ n, n < 10 ^ (j + 1) → (Lib.decDigits n).length ≤ j + 1 := by
  induction j with
  | zero =>
    intro n h
    rw [Lib.decDigits, dif_pos (by simpa using h)]
    simp
  | succ j ih =>
    intro n h
    rw [Lib.decDigits]
    split
    · simp
    · have := ih (n / 10) (by rw [Nat.pow_succ'] at h; exact Nat.div_lt_of_lt_mul h)
      simp
      omega
theorem dec_short10 (n : Nat) (h : n < 4294967296) : (Lib.decDigits n).length ≤ 100 := by
  have := dec_len_pow 9 n (by have : (10 : Nat) ^ 10 = 10000000000 := by decide
                              omega)
  omega

set_option maxHeartbeats 4000000 in
theorem decimal_any : ∀ (n : Nat) (w : World), n < 4294967296 → Calls Tryz.prog 27 #[.int .i64 (n : Int)] w fun e w' => e = .returned (.string (str (Lib.decDigits n))) ∧ Below w.heap.size w w' := by
  intro n
  induction n using Nat.strongRecOn with
  | _ n ih =>
    intro w hn
    by_cases h : n < 10
    · have hge : ¬ (10 : Int) ≤ (n : Int) := by omega
      have hR : Hid (Lib.decDigits n = [UInt8.ofNat (48 + n)]) := by show _ = _; rw [Lib.decDigits, dif_pos h]
      obtain ⟨m, hm⟩ : ∃ m, m = 48 + n := ⟨_, rfl⟩
      have hmi : (48 : Int) + (n : Int) = (m : Int) := by omega
      have hwr : IntKind.u8.wrap (m : Int) = (m : Int) := by rw [IntKind.wrap_u8]; omega
      have hmc : Hid (m = (UInt8.ofNat m).toNat) := by show _ = _; rw [toNat_ofNat_lt m (by omega)]
      rw [← hm] at hR
      clear hm ih
      go_enter Tryz.func27, Tryz.ntmps27
      go_wp2_with (first
        | ((with_reducible show wpList _ _ _ (⟨some 16, .convert _ _ _, _, _, _, _⟩ :: _) _ _); refine wp_str _ rfl (.tmp 15) rfl _ _ 1 1 [UInt8.ofNat m] rfl (bs_of _ _ _ hmc.out) ?_; simp only [Act.put, List.setIfInBounds_toArray, List.set_cons_zero, List.set_cons_succ]))
      go_ret
      rw [hR.out]
      exact ⟨rfl, (Below.refl _ _).alloc (Nat.le_refl _) _⟩
    · have hge : (10 : Int) ≤ (n : Int) := by omega
      have hR : Lib.decDigits n = Lib.decDigits (n / 10) ++ Lib.decDigits (n % 10) := by
        rw [Lib.decDigits, dif_neg h]
        congr 1
        rw [Lib.decDigits, dif_pos (by omega)]
      have HA : Hid (Calls Tryz.prog 27 #[.int .i64 ((n / 10 : Nat) : Int)] w fun e w' => e = .returned (.string (str (Lib.decDigits (n / 10)))) ∧ Below w.heap.size w w') := ih (n / 10) (by omega) w (by omega)
      have HB : Hid (∀ w, Calls Tryz.prog 27 #[.int .i64 ((n % 10 : Nat) : Int)] w fun e w' => e = .returned (.string (str (Lib.decDigits (n % 10)))) ∧ Below w.heap.size w w') := fun w => ih (n % 10) (by omega) w (by omega)
      have hq : (n : Int) / 10 = ((n / 10 : Nat) : Int) := rfl
      have hr : (n : Int) % 10 = ((n % 10 : Nat) : Int) := rfl
      have hl1 : (Lib.decDigits (n / 10)).length ≤ 100 := dec_short10 (n / 10) (by omega)
      have hl2 : (Lib.decDigits (n % 10)).length ≤ 100 := dec_short10 (n % 10) (by omega)
      rw [hR]
      obtain ⟨q, hq'⟩ : ∃ q, q = n / 10 := ⟨_, rfl⟩
      obtain ⟨r, hr'⟩ : ∃ r, r = n % 10 := ⟨_, rfl⟩
      rw [← hq'] at HA hq hl1 ⊢
      rw [← hr'] at HB hr hl2 ⊢
      obtain ⟨X, hX⟩ : ∃ X, X = Lib.decDigits q := ⟨_, rfl⟩
      obtain ⟨Y, hY⟩ : ∃ Y, Y = Lib.decDigits r := ⟨_, rfl⟩
      rw [← hX] at HA hl1 ⊢
      rw [← hY] at HB hl2 ⊢
      have hadd := str_add X Y
      have hsX := str_size X
      have hsY := str_size Y
      obtain ⟨nx, hnx⟩ : ∃ k, k = X.length := ⟨_, rfl⟩
      obtain ⟨ny, hny⟩ : ∃ k, k = Y.length := ⟨_, rfl⟩
      rw [← hnx] at hsX hl1
      rw [← hny] at hsY hl2
      clear hq' hr' hX hY hR ih hnx hny
      go_enter Tryz.func27, Tryz.ntmps27
      go_wp2_with (go_at_call 27; first
        | (with_reducible refine HA.out.mono ?_; rintro e w1 ⟨rfl, hb1⟩; have hk1 := kept_of hb1; clear hb1)
        | (with_reducible refine (HB.out w1).mono ?_; rintro e w2 ⟨rfl, hb2⟩; have hk2 := hk1.step hb2; clear hb2))
      go_ret
      exact ⟨rfl, hk2⟩

theorem str_dot (X Y : List UInt8) (h : Y = X ++ [46]) : str X ++ (⟨#[46]⟩ : ByteArray) = str Y := by rw [h]; exact str_add X [46]
theorem tx4 (b : Nat → Nat) : tx b 4 = Lib.decDigits (b 0) ++ [46] ++ Lib.decDigits (b 1) ++ [46] ++ Lib.decDigits (b 2) ++ [46] ++ Lib.decDigits (b 3) := by simp [tx]

set_option maxHeartbeats 8000000 in
set_option maxRecDepth 100000 in
theorem text4_any (n : Nat) (hn : n < 4294967296) (w : World) : Calls Tryz.prog 53 #[.int .u32 (n : Int)] w fun e w' => e = .returned (.string (str (text4 n))) ∧ Below w.heap.size w w' := by
  have hb := byt_lt n
  have h0 : (n : Int) / 16777216 = (byt n 0 : Int) := by simp [byt]; omega
  have h1 : (n : Int) / 65536 % 256 = (byt n 1 : Int) := by simp [byt]
  have h2 : (n : Int) / 256 % 256 = (byt n 2 : Int) := by simp [byt]
  have h3 : (n : Int) % 256 = (byt n 3 : Int) := by simp [byt]
  have hR : Hid (text4 n = Lib.decDigits (byt n 0) ++ [46] ++ Lib.decDigits (byt n 1) ++ [46] ++ Lib.decDigits (byt n 2) ++ [46] ++ Lib.decDigits (byt n 3)) := tx4 _
  obtain ⟨R, hR'⟩ : ∃ R, R = text4 n := ⟨_, rfl⟩
  rw [← hR'] at hR ⊢
  have HD : Hid (∀ i w, Calls Tryz.prog 27 #[.int .i64 (byt n i : Int)] w fun e w' => e = .returned (.string (str (Lib.decDigits (byt n i)))) ∧ Below w.heap.size w w') := fun i w => decimal_any (byt n i) w (by have := hb i; omega)
  have hl : ∀ i, (Lib.decDigits (byt n i)).length ≤ 3 := fun i => dec_len256 _ (hb i)
  have H0 := Lib.hid (HD.out 0)
  have H1 := Lib.hid (HD.out 1)
  have H2 := Lib.hid (HD.out 2)
  have H3 := Lib.hid (HD.out 3)
  have l0 := hl 0
  have l1 := hl 1
  have l2 := hl 2
  have l3 := hl 3
  obtain ⟨b0, hb0⟩ : ∃ b, b = byt n 0 := ⟨_, rfl⟩
  obtain ⟨b1, hb1⟩ : ∃ b, b = byt n 1 := ⟨_, rfl⟩
  obtain ⟨b2, hb2⟩ : ∃ b, b = byt n 2 := ⟨_, rfl⟩
  obtain ⟨b3, hb3⟩ : ∃ b, b = byt n 3 := ⟨_, rfl⟩
  rw [← hb0] at h0 H0 l0 hR
  rw [← hb1] at h1 H1 l1 hR
  rw [← hb2] at h2 H2 l2 hR
  rw [← hb3] at h3 H3 l3 hR
  clear hb0 hb1 hb2 hb3 hR' HD hl hb
  obtain ⟨X0, e0⟩ : ∃ X, X = Lib.decDigits b0 := ⟨_, rfl⟩
  obtain ⟨X1, e1⟩ : ∃ X, X = Lib.decDigits b1 := ⟨_, rfl⟩
  obtain ⟨X2, e2⟩ : ∃ X, X = Lib.decDigits b2 := ⟨_, rfl⟩
  obtain ⟨X3, e3⟩ : ∃ X, X = Lib.decDigits b3 := ⟨_, rfl⟩
  rw [← e0] at H0 l0 hR
  rw [← e1] at H1 l1 hR
  rw [← e2] at H2 l2 hR
  rw [← e3] at H3 l3 hR
  clear e0 e1 e2 e3
  obtain ⟨Y0, f0⟩ : ∃ Y, Y = X0 ++ [46] := ⟨_, rfl⟩
  obtain ⟨Y1, f1⟩ : ∃ Y, Y = Y0 ++ X1 := ⟨_, rfl⟩
  obtain ⟨Y2, f2⟩ : ∃ Y, Y = Y1 ++ [46] := ⟨_, rfl⟩
  obtain ⟨Y3, f3⟩ : ∃ Y, Y = Y2 ++ X2 := ⟨_, rfl⟩
  obtain ⟨Y4, f4⟩ : ∃ Y, Y = Y3 ++ [46] := ⟨_, rfl⟩
  obtain ⟨Y5, f5⟩ : ∃ Y, Y = Y4 ++ X3 := ⟨_, rfl⟩
  have g0 := str_dot X0 Y0 f0
  have g1 : str Y0 ++ str X1 = str Y1 := by rw [f1]; exact str_add _ _
  have g2 := str_dot Y1 Y2 f2
  have g3 : str Y2 ++ str X2 = str Y3 := by rw [f3]; exact str_add _ _
  have g4 := str_dot Y3 Y4 f4
  have g5 : str Y4 ++ str X3 = str Y5 := by rw [f5]; exact str_add _ _
  have s0 : (str X0).size ≤ 3 := by rw [str_size]; exact l0
  have s1 : (str X1).size ≤ 3 := by rw [str_size]; exact l1
  have s2 : (str X2).size ≤ 3 := by rw [str_size]; exact l2
  have s3 : (str X3).size ≤ 3 := by rw [str_size]; exact l3
  have t0 : (str Y0).size ≤ 4 := by rw [str_size, f0]; simp; omega
  have t1 : (str Y1).size ≤ 7 := by rw [str_size, f1, f0]; simp; omega
  have t2 : (str Y2).size ≤ 8 := by rw [str_size, f2, f1, f0]; simp; omega
  have t3 : (str Y3).size ≤ 11 := by rw [str_size, f3, f2, f1, f0]; simp; omega
  have t4 : (str Y4).size ≤ 12 := by rw [str_size, f4, f3, f2, f1, f0]; simp; omega
  have hR2 : Hid (R = Y5) := by show _ = _; rw [hR.out, f5, f4, f3, f2, f1, f0]
  clear hR f0 f1 f2 f3 f4 f5 l0 l1 l2 l3
  go_enter Tryz.func53, Tryz.ntmps53
  go_wp2_with (go_at_call 27; first
    | (with_reducible refine (H0.out w).mono ?_; rintro e w1 ⟨rfl, hb1⟩; have hk1 := kept_of hb1; clear hb1)
    | (with_reducible refine (H1.out w1).mono ?_; rintro e w2 ⟨rfl, hb2⟩; have hk2 := hk1.step hb2; clear hb2)
    | (with_reducible refine (H2.out w2).mono ?_; rintro e w3 ⟨rfl, hb3⟩; have hk3 := hk2.step hb3; clear hb3)
    | (with_reducible refine (H3.out w3).mono ?_; rintro e w4 ⟨rfl, hb4⟩; have hk4 := hk3.step hb4; clear hb4))
  go_ret
  rw [hR2.out]
  exact ⟨rfl, hk4⟩
end Go.Proofs.YtcepigekibidfaaGreatDoor
namespace Go.Proofs.YtcepigekibidfaaGreatDoor
open Go.RowKit

theorem hxs_len8 (a : List Nat) (h : ∀ x ∈ a, x < 65536) (o k : Nat) (hk : k ≤ 8) : (hxs (fun j => a.getD (o + j) 0) k).length ≤ 40 := by
  have := hxs_len (fun j => a.getD (o + j) 0) (fun i => by
    show a.getD (o + i) 0 < 65536
    rw [List.getD_eq_getElem?_getD]
    cases h2 : a[o + i]? with
    | none => simp
    | some y => exact h y (List.mem_of_getElem? h2)) k
  omega
theorem brk_len (a : List Nat) (ha : a.length = 8) (h : ∀ x ∈ a, x < 65536) : (brk a).length ≤ 100 := by
  have hle := longest_le a ha
  have h1 := hxs_len8 a h 0 (longest a).1 (by omega)
  have h2 := hxs_len8 a h (longest a).2 (8 - (longest a).2) (by omega)
  simp only [Nat.zero_add] at h1
  unfold brk text6
  simp only [List.length_append, List.length_cons, List.length_nil]
  split
  · simp only [List.length_cons, List.length_nil]
    omega
  · simp only [List.length_nil]
    omega
theorem prs_len (l a : List UInt8) (er : Bool) (h : prs l = (a, er)) (hl : l.length ≤ 10000) : a.length ≤ 100000 := by
  unfold prs at h
  split at h
  · unfold prb at h
    split at h
    · split at h
      · rename_i ad hi
        cases h
        obtain ⟨h1, h2⟩ := ip6_ok _ ad hi
        have := brk_len ad h1 h2
        omega
      · cases h
        simp
    · cases h
      simp
  · unfold nam at h
    split at h
    · split at h
      · cases h
        simp
      · split at h
        · cases h
          have := tx_len (byt (ip4 (low (dec l))).1) (byt_lt _) 4
          show (tx _ 4).length ≤ _
          omega
        · cases h
          rw [low_length]
          have := dec_len l.length l (Nat.le_refl _)
          omega
    · cases h
      simp
end Go.Proofs.YtcepigekibidfaaGreatDoor
namespace Go.Proofs.YtcepigekibidfaaGreatDoor
open Go.RowKit

theorem hx_dec : ∀ d, d < 10 → UInt8.ofNat (48 + d) = hx d := by decide
theorem bsd_mem (b : Nat) (h2 : 2 ≤ b) (h16 : b ≤ 16) (n : Nat) : ∀ c ∈ bsd b n, ∃ d, d < b ∧ c = hx d := by
  induction n using Nat.strongRecOn with
  | _ n ih =>
    intro c hc
    by_cases h : n < b
    · rw [bsd_lt h] at hc
      exact ⟨n, h, by simpa using hc⟩
    · have hq : n / b < n := Nat.div_lt_self (by omega) (by omega)
      rw [bsd_ge h2 h] at hc
      rcases List.mem_append.1 hc with hc | hc
      · exact ih (n / b) hq c hc
      · exact ⟨n % b, Nat.mod_lt _ (by omega), by simpa using hc⟩
theorem bsd_ne (b n : Nat) : bsd b n ≠ [] := by
  rw [bsd]
  split <;> simp
theorem bsd_not (b : Nat) (h2 : 2 ≤ b) (h16 : b ≤ 16) (n : Nat) (c : UInt8) (hc : ∀ d, d < 16 → hx d ≠ c) : c ∉ bsd b n := by
  intro hm
  obtain ⟨d, hd, e⟩ := bsd_mem b h2 h16 n c hm
  exact hc d (by omega) e.symm

end Go.Proofs.YtcepigekibidfaaGreatDoor
namespace Go.Proofs.YtcepigekibidfaaGreatDoor
open Go.RowKit

theorem hexL_no58 (u : Nat) : (58 : UInt8) ∉ hexL u := by
  rw [← bsd_hexL]
  exact bsd_not 16 (by omega) (by omega) u 58 (by decide)
theorem hexL_ne (u : Nat) : hexL u ≠ [] := by
  rw [← bsd_hexL]
  exact bsd_ne _ _
/-- Pieces with colons between, each a text of its own. -/
def jc (f : Nat → List UInt8) : Nat → List UInt8
  | 0 => []
  | k + 1 => jc f k ++ (if k = 0 then [] else [58]) ++ f k
theorem hxs_jc (x : Nat → Nat) : ∀ k, hxs x k = jc (fun j => hexL (x j)) k
  | 0 => rfl
  | k + 1 => by rw [hxs, jc, hxs_jc x k]

/-- The longest row is one of noughts. -/
theorem lr_zero (a : List Nat) (ha : a.length = 8) : ∀ (n i st fr tu mo : Nat), n = 8 - i → i ≤ 8 → (∀ j, st ≤ j → j < i → a.getD j 0 = 0) → (∀ j, fr ≤ j → j < tu → a.getD j 0 = 0) → (fr < tu ∨ (fr = 8 ∧ tu = 8)) →
    (∀ j, (lr i st fr tu mo (a.drop i)).1 ≤ j → j < (lr i st fr tu mo (a.drop i)).2 → a.getD j 0 = 0) ∧ ((lr i st fr tu mo (a.drop i)).1 < (lr i st fr tu mo (a.drop i)).2 ∨ ((lr i st fr tu mo (a.drop i)).1 = 8 ∧ (lr i st fr tu mo (a.drop i)).2 = 8))
  | 0, i, st, fr, tu, mo, hn, hi, _, h2, h3 => by
    rw [List.drop_eq_nil_of_le (by omega)]
    exact ⟨h2, h3⟩
  | n + 1, i, st, fr, tu, mo, hn, hi, h1, h2, h3 => by
    have hlt : i < a.length := by omega
    have hd : a.drop i = a.getD i 0 :: a.drop (i + 1) := by
      rw [List.drop_eq_getElem_cons hlt]
      simp [List.getD, List.getElem?_eq_getElem hlt]
    rw [hd, lr]
    split
    · exact lr_zero a ha n (i + 1) (i + 1) fr tu mo (by omega) (by omega) (fun j h4 h5 => by omega) h2 h3
    · rename_i hz
      have hz : a.getD i 0 = 0 := by
        cases h : a.getD i 0 with
        | zero => rfl
        | succ k => exact absurd (by rw [h]; simp) hz
      have h1' : ∀ j, st ≤ j → j < i + 1 → a.getD j 0 = 0 := fun j h4 h5 => by
        by_cases h6 : j = i
        · rw [h6]; exact hz
        · exact h1 j h4 (by omega)
      split
      · exact lr_zero a ha n (i + 1) st st (i + 1) _ (by omega) (by omega) h1' h1' (by left; omega)
      · exact lr_zero a ha n (i + 1) st fr tu mo (by omega) (by omega) h1' h2 h3
theorem longest_zero (a : List Nat) (ha : a.length = 8) : (∀ j, (longest a).1 ≤ j → j < (longest a).2 → a.getD j 0 = 0) ∧ ((longest a).1 < (longest a).2 ∨ ((longest a).1 = 8 ∧ (longest a).2 = 8)) := by
  have := lr_zero a ha 8 0 0 8 8 1 rfl (by omega) (fun j _ h => by omega) (fun j h1 h2 => by omega) (.inr ⟨rfl, rfl⟩)
  exact this
theorem getD_lt (a : List Nat) (h : ∀ x ∈ a, x < 65536) (i : Nat) : a.getD i 0 < 65536 := by
  rw [List.getD_eq_getElem?_getD]
  cases h2 : a[i]? with
  | none => simp
  | some y => exact h y (List.mem_of_getElem? h2)
end Go.Proofs.YtcepigekibidfaaGreatDoor
