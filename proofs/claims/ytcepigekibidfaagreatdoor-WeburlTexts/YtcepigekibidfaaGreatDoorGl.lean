/-
  What weburl.schemes, known and special answer: a map of the seven schemes with their default ports; nothing that was there turns. No condition.
  What weburl.lower answers: the text with small letters; nothing that was there turns. Condition: a text of at most 100000000 bytes.
  The parts of sync.Once's road, the once not yet done, its lock free: the two calls that doSlow defers, the lock. No condition.
  What strings.NewReplacer answers at the program's own six texts. No condition.
-/
import Derived.Test.YtcepigekibidfaaGreatDoorGa
import Derived.Test.YtcepigekibidfaaGreatDoorGk
import Derived.Maps.OwnSet
import Derived.Test.YtcepigekibidfaaGreatDoorGf
import Derived.Lib.ConvBytes
import Derived.Tactics
import Derived.Tactics2
import Derived.Defers
import Derived.Laws.Pointers
import Derived.Laws.LoneSync
import Derived.RegionCalls
namespace Go.Proofs.YtcepigekibidfaaGreatDoor
open Go.RowKit

def es7 : List MapEntry := [⟨.string ⟨#[104, 116, 116, 112]⟩, .int .i64 80, 0⟩, ⟨.string ⟨#[104, 116, 116, 112, 115]⟩, .int .i64 443, 1⟩, ⟨.string ⟨#[119, 115]⟩, .int .i64 80, 2⟩, ⟨.string ⟨#[119, 115, 115]⟩, .int .i64 443, 3⟩, ⟨.string ⟨#[100, 97, 116, 97]⟩, .int .i64 (-1), 4⟩, ⟨.string ⟨#[98, 108, 111, 98]⟩, .int .i64 (-1), 5⟩, ⟨.string ⟨#[97, 98, 111, 117, 116]⟩, .int .i64 (-1), 6⟩]

theorem setObj_alloc (w : World) (o o' : Obj) : ({ w.alloc o with heap := (w.alloc o).heap.setIfInBounds w.heap.size o' } : World) = w.alloc o' := by
  unfold World.alloc
  simp only [World.mk.injEq, and_self, and_true]
  apply Array.ext'
  simp
theorem ins (w : World) (es : List MapEntry) (c : Nat) (k : ByteArray) (v : Int) (hlen : k.size ≤ maxLen) (hk : Instr.findNow .string (.string k) es 0 = some none) :
    (Instr.mapUpdate 76 (.map (some w.heap.size)) (.string k) (.int .i64 v)).run Tryz.prog (w.alloc (.map es.toArray c)) = .ok () (w.alloc (.map (es ++ [MapEntry.mk (.string k) (.int .i64 v) c]).toArray (c + 1))) := by
  have hb : (w.alloc (.map es.toArray c)).heap[w.heap.size]? = some (.map es.toArray c) := Go.heap_alloc_new w _
  have hs := Go.MapKept.run_setObj_map (P := Tryz.prog) (w := w.alloc (.map es.toArray c)) (.map (es ++ [MapEntry.mk (.string k) (.int .i64 v) c]).toArray (c + 1)) hb
  rw [setObj_alloc] at hs
  have hkey := Go.WideMaps.keyOf_string_mk (P := Tryz.prog) Tryz.underlying9 hlen
  have K : Go.Maps.Keyed Tryz.prog 9 := Go.Maps.string_keyed Tryz.underlying9
  have hf : (Instr.findKey 9 (.string k) es).run Tryz.prog (w.alloc (.map es.toArray c)) = .ok none (w.alloc (.map es.toArray c)) := by
    simp only [Instr.findKey, Sem.run_bind, run_underlying Tryz.underlying9, Result.andThen_ok, hk, Sem.run_pure]
  have e : (es ++ [MapEntry.mk (.string k) (.int .i64 v) c]).toArray = es.toArray.push ⟨.string k, .int .i64 v, c⟩ := by simp
  rw [e] at hs ⊢
  simp only [Instr.mapUpdate, Sem.run_bind, run_underlying Tryz.underlying76, Result.andThen_ok, Go.MapKept.run_getObj_map hb, K.check _ false hkey, hf, hs]
set_option maxRecDepth 100000 in
theorem schemes_any (w : World) : Calls Tryz.prog 59 #[] w fun e w' => e = .returned (.map (some w.heap.size)) ∧ w' = w.alloc (.map es7.toArray 7) := by
  have hmm := @run_makeMap Tryz.prog
  obtain ⟨M, hM⟩ : ∃ M : Nat → Array MapEntry, M = fun k => (es7.take k).toArray := ⟨_, rfl⟩
  have h0 : (Instr.mapUpdate 76 (.map (some w.heap.size)) (.string ⟨#[104, 116, 116, 112]⟩) (.int .i64 (80))).run Tryz.prog (w.alloc (.map #[] 0)) = .ok () (w.alloc (.map (M 1) 1)) := by
    rw [hM]
    exact ins w (es7.take 0) 0 ⟨#[104, 116, 116, 112]⟩ (80) (by decide) (by kernel_rfl)
  have h1 : (Instr.mapUpdate 76 (.map (some w.heap.size)) (.string ⟨#[104, 116, 116, 112, 115]⟩) (.int .i64 (443))).run Tryz.prog (w.alloc (.map (M 1) 1)) = .ok () (w.alloc (.map (M 2) 2)) := by
    rw [hM]
    exact ins w (es7.take 1) 1 ⟨#[104, 116, 116, 112, 115]⟩ (443) (by decide) (by kernel_rfl)
  have h2 : (Instr.mapUpdate 76 (.map (some w.heap.size)) (.string ⟨#[119, 115]⟩) (.int .i64 (80))).run Tryz.prog (w.alloc (.map (M 2) 2)) = .ok () (w.alloc (.map (M 3) 3)) := by
    rw [hM]
    exact ins w (es7.take 2) 2 ⟨#[119, 115]⟩ (80) (by decide) (by kernel_rfl)
  have h3 : (Instr.mapUpdate 76 (.map (some w.heap.size)) (.string ⟨#[119, 115, 115]⟩) (.int .i64 (443))).run Tryz.prog (w.alloc (.map (M 3) 3)) = .ok () (w.alloc (.map (M 4) 4)) := by
    rw [hM]
    exact ins w (es7.take 3) 3 ⟨#[119, 115, 115]⟩ (443) (by decide) (by kernel_rfl)
  have h4 : (Instr.mapUpdate 76 (.map (some w.heap.size)) (.string ⟨#[100, 97, 116, 97]⟩) (.int .i64 (-1))).run Tryz.prog (w.alloc (.map (M 4) 4)) = .ok () (w.alloc (.map (M 5) 5)) := by
    rw [hM]
    exact ins w (es7.take 4) 4 ⟨#[100, 97, 116, 97]⟩ (-1) (by decide) (by kernel_rfl)
  have h5 : (Instr.mapUpdate 76 (.map (some w.heap.size)) (.string ⟨#[98, 108, 111, 98]⟩) (.int .i64 (-1))).run Tryz.prog (w.alloc (.map (M 5) 5)) = .ok () (w.alloc (.map (M 6) 6)) := by
    rw [hM]
    exact ins w (es7.take 5) 5 ⟨#[98, 108, 111, 98]⟩ (-1) (by decide) (by kernel_rfl)
  have h6 : (Instr.mapUpdate 76 (.map (some w.heap.size)) (.string ⟨#[97, 98, 111, 117, 116]⟩) (.int .i64 (-1))).run Tryz.prog (w.alloc (.map (M 6) 6)) = .ok () (w.alloc (.map (M 7) 7)) := by
    rw [hM]
    exact ins w (es7.take 6) 6 ⟨#[97, 98, 111, 117, 116]⟩ (-1) (by decide) (by kernel_rfl)
  have h8 : es7.toArray = M 7 := by rw [hM]; rfl
  rw [h8]
  clear hM h8
  go_enter Tryz.func59, Tryz.ntmps59
  go_wp2
  go_ret
  exact ⟨rfl, rfl⟩

def dpV (l : List UInt8) : Int := (dp l).getD 0
theorem look (w : World) (b : Nat) (hb : w.heap[b]? = some (.map es7.toArray 7)) (l : List UInt8) (hl : l.length ≤ 1000000000) (c : Bool) : (Instr.lookup 76 (.map (some b)) (.string (str l)) c).run Tryz.prog w = .ok (if c then .tuple #[.int .i64 (dpV l), .bool (dp l).isSome] else .int .i64 (dpV l)) w := by
  have hkey := Go.WideMaps.keyOf_string_mk (P := Tryz.prog) Tryz.underlying9 (s := str l) (by rw [str_size]; unfold maxLen; omega)
  have K : Go.Maps.Keyed Tryz.prog 9 := Go.Maps.string_keyed Tryz.underlying9
  have hz : (zeroValue 3).run Tryz.prog w = .ok (.int .i64 0) w := by kernel_rfl
  unfold dpV
  cases h : dp l with
  | some p =>
    have hf : ∃ i, (Instr.findKey 9 (.string (str l)) es7).run Tryz.prog w = .ok (some (i, .int .i64 p)) w := by
      rcases dp_cases l p h with ⟨rfl, rfl⟩ | ⟨rfl, rfl⟩ | ⟨rfl, rfl⟩ | ⟨rfl, rfl⟩ | ⟨rfl, rfl⟩ | ⟨rfl, rfl⟩ | ⟨rfl, rfl⟩
      · exact ⟨0, by kernel_rfl⟩
      · exact ⟨1, by kernel_rfl⟩
      · exact ⟨2, by kernel_rfl⟩
      · exact ⟨3, by kernel_rfl⟩
      · exact ⟨4, by kernel_rfl⟩
      · exact ⟨5, by kernel_rfl⟩
      · exact ⟨6, by kernel_rfl⟩
    obtain ⟨i, hf⟩ := hf
    cases c <;> simp [Instr.lookup, run_underlying Tryz.underlying76, Go.MapKept.run_getObj_map hb, K.check w _ hkey, hf, Result.andThen]
  | none =>
    have n0 : (str l == ⟨#[104, 116, 116, 112]⟩) = false := by
      show ((str l).data == #[104, 116, 116, 112]) = false
      rw [beq_eq_false_iff_ne]
      intro e
      have e2 : l = [104, 116, 116, 112] := by
        have := congrArg (fun x : Array UInt8 => x.toList) e
        simpa [str] using this
      rw [e2] at h
      exact absurd h (by decide)
    have n1 : (str l == ⟨#[104, 116, 116, 112, 115]⟩) = false := by
      show ((str l).data == #[104, 116, 116, 112, 115]) = false
      rw [beq_eq_false_iff_ne]
      intro e
      have e2 : l = [104, 116, 116, 112, 115] := by
        have := congrArg (fun x : Array UInt8 => x.toList) e
        simpa [str] using this
      rw [e2] at h
      exact absurd h (by decide)
    have n2 : (str l == ⟨#[119, 115]⟩) = false := by
      show ((str l).data == #[119, 115]) = false
      rw [beq_eq_false_iff_ne]
      intro e
      have e2 : l = [119, 115] := by
        have := congrArg (fun x : Array UInt8 => x.toList) e
        simpa [str] using this
      rw [e2] at h
      exact absurd h (by decide)
    have n3 : (str l == ⟨#[119, 115, 115]⟩) = false := by
      show ((str l).data == #[119, 115, 115]) = false
      rw [beq_eq_false_iff_ne]
      intro e
      have e2 : l = [119, 115, 115] := by
        have := congrArg (fun x : Array UInt8 => x.toList) e
        simpa [str] using this
      rw [e2] at h
      exact absurd h (by decide)
    have n4 : (str l == ⟨#[100, 97, 116, 97]⟩) = false := by
      show ((str l).data == #[100, 97, 116, 97]) = false
      rw [beq_eq_false_iff_ne]
      intro e
      have e2 : l = [100, 97, 116, 97] := by
        have := congrArg (fun x : Array UInt8 => x.toList) e
        simpa [str] using this
      rw [e2] at h
      exact absurd h (by decide)
    have n5 : (str l == ⟨#[98, 108, 111, 98]⟩) = false := by
      show ((str l).data == #[98, 108, 111, 98]) = false
      rw [beq_eq_false_iff_ne]
      intro e
      have e2 : l = [98, 108, 111, 98] := by
        have := congrArg (fun x : Array UInt8 => x.toList) e
        simpa [str] using this
      rw [e2] at h
      exact absurd h (by decide)
    have n6 : (str l == ⟨#[97, 98, 111, 117, 116]⟩) = false := by
      show ((str l).data == #[97, 98, 111, 117, 116]) = false
      rw [beq_eq_false_iff_ne]
      intro e
      have e2 : l = [97, 98, 111, 117, 116] := by
        have := congrArg (fun x : Array UInt8 => x.toList) e
        simpa [str] using this
      rw [e2] at h
      exact absurd h (by decide)
    have hn : Instr.findNow .string (.string (str l)) es7 0 = some none := by
      simp only [es7, Instr.findNow, Instr.sameNow, n0, n1, n2, n3, n4, n5, n6]
    have hf : (Instr.findKey 9 (.string (str l)) es7).run Tryz.prog w = .ok none w := by
      simp only [Instr.findKey, Sem.run_bind, run_underlying Tryz.underlying9, Result.andThen_ok, hn, Sem.run_pure]
    cases c <;> simp [Instr.lookup, run_underlying Tryz.underlying76, Go.MapKept.run_getObj_map hb, K.check w _ hkey, hf, hz, Result.andThen]

theorem known_any (l : List UInt8) (w : World) (hl : l.length ≤ 1000000000) : Calls Tryz.prog 34 #[.string (str l)] w fun e w' => e = .returned (.bool (dp l).isSome) ∧ Below w.heap.size w w' := by
  have HM := Lib.hid (schemes_any w)
  have hlk := look (w.alloc (.map es7.toArray 7)) w.heap.size (Go.heap_alloc_new w _) l hl true
  simp only [if_true] at hlk
  obtain ⟨b, hb⟩ : ∃ b, b = (dp l).isSome := ⟨_, rfl⟩
  obtain ⟨n, hn⟩ : ∃ n, n = dpV l := ⟨_, rfl⟩
  obtain ⟨o, ho⟩ : ∃ o, o = Obj.map es7.toArray 7 := ⟨_, rfl⟩
  rw [← hb, ← hn, ← ho] at hlk
  rw [← ho] at HM
  rw [← hb]
  clear hb hn ho
  go_enter Tryz.func34, Tryz.ntmps34
  go_wp2_with (go_at_call 59; with_reducible refine HM.out.mono ?_; rintro e w1 ⟨rfl, rfl⟩)
  go_ret
  exact ⟨rfl, (Below.refl _ _).alloc (Nat.le_refl _) _⟩
theorem special_any (l : List UInt8) (w : World) (hl : l.length ≤ 1000000000) : Calls Tryz.prog 36 #[.string (str l)] w fun e w' => e = .returned (.bool (spc l)) ∧ Below w.heap.size w w' := by
  have HK := known_any l w hl
  have HM : Hid (∀ w, Calls Tryz.prog 59 #[] w fun e w' => e = .returned (.map (some w.heap.size)) ∧ w' = w.alloc (.map es7.toArray 7)) := schemes_any
  have hlk : ∀ w : World, (Instr.lookup 76 (.map (some w.heap.size)) (.string (str l)) false).run Tryz.prog (w.alloc (.map es7.toArray 7)) = .ok (.int .i64 (dpV l)) (w.alloc (.map es7.toArray 7)) := fun w => by
    have := look (w.alloc (.map es7.toArray 7)) w.heap.size (Go.heap_alloc_new w _) l hl false
    simpa using this
  have hs : spc l = ((dp l).isSome && (dpV l != -1)) := by
    unfold spc dpV
    cases dp l with
    | none => rfl
    | some p => simp [bne]; rfl
  obtain ⟨b, hb⟩ : ∃ b, b = (dp l).isSome := ⟨_, rfl⟩
  obtain ⟨n, hn⟩ : ∃ n, n = dpV l := ⟨_, rfl⟩
  obtain ⟨o, ho⟩ : ∃ o, o = Obj.map es7.toArray 7 := ⟨_, rfl⟩
  rw [← hb, ← hn] at hs
  rw [← hb] at HK
  simp only [← hn, ← ho] at hlk
  rw [← ho] at HM
  rw [hs]
  have HK := Lib.hid HK
  clear hs hb hn ho
  cases b with
  | false =>
    go_enter Tryz.func36, Tryz.ntmps36
    go_wp2_with (first
      | (go_at_call 34; with_reducible refine HK.out.mono ?_; rintro e w1 ⟨rfl, hb1⟩)
      | (go_at_call 59; with_reducible refine (HM.out _).mono ?_; rintro e w1 ⟨rfl, rfl⟩))
    go_ret
    exact ⟨rfl, hb1⟩
  | true =>
    go_enter Tryz.func36, Tryz.ntmps36
    go_wp2_with (first
      | (go_at_call 34; with_reducible refine HK.out.mono ?_; rintro e w1 ⟨rfl, hb1⟩)
      | (go_at_call 59; with_reducible refine (HM.out _).mono ?_; rintro e w2 ⟨rfl, rfl⟩))
    go_ret
    refine ⟨by simp, hb1.alloc hb1.size _⟩
end Go.Proofs.YtcepigekibidfaaGreatDoor
namespace Go.Proofs.YtcepigekibidfaaGreatDoor
open Go.RowKit

/-- Block g is a row of bytes that a text was made into, which may be written over. -/
def Wb (w : World) (g : Nat) (L : List UInt8) : Prop := ∃ (X : Array Value) (fz : Nat × Nat), w.heap[g]? = some (.cells X 5 fz) ∧ (∀ (j : Nat) (c : UInt8), L[j]? = some c → X[j]? = some (vb c)) ∧ (L.length ≤ fz.1 ∨ fz.2 = 0)
theorem Wb.cell {w : World} {g j : Nat} {L : List UInt8} (h : Wb w g L) (hj : j < L.length) : w.cell? ⟨g, j, none⟩ = some (vb (L.getD j 0)) := by
  obtain ⟨X, fz, h1, h2, _⟩ := h
  have := h2 j (L.getD j 0) (by simp [List.getD, List.getElem?_eq_getElem hj])
  simp [World.cell?, h1, this]
theorem Wb.frozen {w : World} {g j : Nat} {L : List UInt8} (h : Wb w g L) (hj : j < L.length) : w.frozen? ⟨g, j, none⟩ = false := by
  obtain ⟨X, fz, h1, _, h3⟩ := h
  simp [World.frozen?, h1]
  intro _
  omega
theorem Wb.set {w : World} {g j : Nat} {L : List UInt8} (h : Wb w g L) (hj : j < L.length) (c : UInt8) : Wb (w.setCell ⟨g, j, none⟩ (vb c)) g (L.set j c) := by
  obtain ⟨X, fz, h1, h2, h3⟩ := h
  have hX : j < X.size := by
    have := h2 j (L.getD j 0) (by simp [List.getD, List.getElem?_eq_getElem hj])
    exact (Array.getElem?_eq_some_iff.1 this).1
  refine ⟨X.setIfInBounds j (vb c), fz, ?_, ?_, by simpa using h3⟩
  · simp [World.setCell, Array.getElem?_modify, h1]
  · intro k d hk
    rw [Array.getElem?_setIfInBounds]
    by_cases e : j = k
    · subst e
      rw [List.getElem?_set_self hj] at hk
      cases hk
      simp [hX]
    · rw [List.getElem?_set_ne e] at hk
      rw [if_neg e]
      exact h2 k d hk
theorem Wb.lt {w : World} {g : Nat} {L : List UInt8} (h : Wb w g L) : g < w.heap.size := by
  obtain ⟨X, fz, h1, _⟩ := h
  exact (Array.getElem?_eq_some_iff.1 h1).1
theorem Wb.bs {w : World} {g : Nat} {L : List UInt8} (h : Wb w g L) : Bs w w.heap.size (some ⟨g, 0, none⟩) L.length L :=
  ⟨rfl, fun _ => ⟨g, 0, rfl, h.lt, fun j c hj => by
    have hlt := (List.getElem?_eq_some_iff.1 hj).1
    rw [Nat.zero_add, h.cell hlt]
    simp [List.getD, hj]⟩⟩
theorem conv_bytes (w : World) (l : List UInt8) (hl : l.length ≤ 1000000000) : ∃ c w', (convert 9 36 (.string (str l))).run Tryz.prog w = .ok (.slice (some ⟨w.heap.size, 0, none⟩) l.length c) w' ∧ l.length ≤ c ∧ c ≤ 9223372036854775807 ∧
    Wb w' w.heap.size l ∧ Below w.heap.size w w' := by
  have h := Lib.run_convert_string_bytes (P := Tryz.prog) w 9 36 5 (str l) Tryz.underlying9 Tryz.underlying36 Tryz.underlying5
  rw [str_size] at h
  refine ⟨_, _, h, grownCap_ge _ _ _ _, ?_, ⟨_, _, Lib.bytesWorld_at_new w 5 (str l), fun j x hx => ?_, ?_⟩, ?_⟩
  · have := grownCap_le_maxLen w l.length 0 5 (by unfold maxLen; omega)
    unfold maxLen at this
    omega
  · have hj := (List.getElem?_eq_some_iff.1 hx).1
    have := Lib.bytesWorld_cell w 5 (str l) j (by rw [str_size]; exact hj)
    simp [World.cell?, Lib.bytesWorld_at_new] at this
    rw [this]
    simp [str, vb, hx]
  · left; simp [Lib.bytesCells, str]
  · exact ⟨rfl, rfl, rfl, by rw [Lib.bytesWorld_size]; omega, fun k hk => Lib.bytesWorld_at_old w 5 (str l) k hk⟩
theorem below_setCell {B : Nat} {w w' : World} (h : Below B w w') (g j : Nat) (v : Value) (hB : B ≤ g) : Below B w (w'.setCell ⟨g, j, none⟩ v) := h.trans ((Upd.setCell w' g j v).below hB)

theorem lower_at (c : UInt8) : Lib.lowerB c = if 65 ≤ c.toNat ∧ c.toNat ≤ 90 then UInt8.ofNat (c.toNat + 32) else c := by
  refine u8_all (P := fun c => Lib.lowerB c = if 65 ≤ c.toNat ∧ c.toNat ≤ 90 then UInt8.ofNat (c.toNat + 32) else c) ?_ c
  decide +kernel
theorem low_take (l : List UInt8) (k : Nat) (hk : k < l.length) : ((low (l.take k) ++ l.drop k).set k (Lib.lowerB (l.getD k 0))) = low (l.take (k + 1)) ++ l.drop (k + 1) := by
  have h1 : (low (l.take k)).length = k := by simp [low, Lib.toLowerA]; omega
  rw [List.set_append_right _ _ (by omega), h1, Nat.sub_self, List.drop_eq_getElem_cons hk, List.set_cons_zero, List.take_succ_eq_append_getElem hk]
  have e : low (l.take k ++ [l[k]]) = low (l.take k) ++ [Lib.lowerB l[k]] := by
    unfold low Lib.toLowerA
    rw [List.map_append]
    rfl
  rw [e]
  simp [List.getD, List.getElem?_eq_getElem hk]
theorem low_at (l : List UInt8) (k : Nat) (hk : k < l.length) : (low (l.take k) ++ l.drop k).getD k 0 = l.getD k 0 := by
  have h1 : (low (l.take k)).length = k := by simp [low, Lib.toLowerA]; omega
  rw [List.getD_eq_getElem?_getD, List.getElem?_append_right (by omega), h1, Nat.sub_self, List.getElem?_drop, Nat.add_zero, List.getD_eq_getElem?_getD]
theorem low_len (l : List UInt8) (k : Nat) : (low (l.take k) ++ l.drop k).length = l.length := by
  simp [low, Lib.toLowerA]
  omega

set_option maxHeartbeats 4000000 in
theorem wlower_any (l : List UInt8) (w : World) (hl : l.length ≤ 100000000) : Calls Tryz.prog 33 #[.string (str l)] w fun e w' => e = .returned (.string (str (low l))) ∧ Below w.heap.size w w' := by
  obtain ⟨cap, w1, hcv, hcap, hcap2, hwb, hb1⟩ := conv_bytes w l (by omega)
  obtain ⟨S, hS⟩ : ∃ S, S = l.length := ⟨_, rfl⟩
  rw [← hS] at hcv hcap hl
  obtain ⟨g, hg⟩ : ∃ g, g = w.heap.size := ⟨_, rfl⟩
  rw [← hg] at hcv hwb
  have HL : Hid (∀ k, (low (l.take k) ++ l.drop k).length = S) := fun k => by rw [low_len, hS]
  have HA : Hid (∀ k, k < S → (low (l.take k) ++ l.drop k).getD k 0 = l.getD k 0) := fun k hk => low_at l k (by omega)
  have HN : Hid (∀ k, k < S → (low (l.take k) ++ l.drop k).set k (Lib.lowerB (l.getD k 0)) = low (l.take (k + 1)) ++ l.drop (k + 1)) := fun k hk => low_take l k (by omega)
  have H0 : Hid (low (l.take 0) ++ l.drop 0 = l) := by show _ = _; simp [low, Lib.toLowerA]
  have HE : Hid (low (l.take S) ++ l.drop S = low l) := by show _ = _; rw [hS]; simp
  have HG : Hid (w.heap.size ≤ g) := by show _ ≤ _; omega
  obtain ⟨M, hM⟩ : ∃ M : Nat → List UInt8, M = fun k => low (l.take k) ++ l.drop k := ⟨_, rfl⟩
  have HL : Hid (∀ k, (M k).length = S) := by rw [hM]; exact HL
  have HA : Hid (∀ k, k < S → (M k).getD k 0 = l.getD k 0) := by rw [hM]; exact HA
  have HN : Hid (∀ k, k < S → (M k).set k (Lib.lowerB (l.getD k 0)) = M (k + 1)) := by rw [hM]; exact HN
  have H0 : Hid (M 0 = l) := by rw [hM]; exact H0
  have HE : Hid (M S = low l) := by rw [hM]; exact HE
  have hwb := Lib.hid hwb
  have hb1 := Lib.hid hb1
  clear hM hS hg
  go_enter Tryz.func33, Tryz.ntmps33
  go_wp2_with fail
  go_loopw [10] (fun i wr => ∃ k : Nat, k ≤ S ∧ i = .int .i64 (k : Int) ∧ Wb wr g (M k) ∧ Kept w wr) (fun i _ => S - (intOf i).toNat)
  case atStart => exact ⟨0, by omega, rfl, by rw [H0.out]; exact hwb.out, hb1.out⟩
  case round =>
    obtain ⟨k, hk, rfl, hW, hkp⟩ := hrel
    by_cases hlt : k < S
    · have hkS : (k : Int) < (S : Int) := by omega
      have hkc : k < (M k).length := by rw [HL.out]; exact hlt
      have hcell := hW.cell hkc
      have hfz := hW.frozen hkc
      have hst := hW.set hkc (Lib.lowerB (l.getD k 0))
      rw [HN.out k hlt] at hst
      rw [HA.out k hlt] at hcell
      obtain ⟨c, hc⟩ : ∃ c, c = l.getD k 0 := ⟨_, rfl⟩
      rw [← hc] at hcell hst
      have hsame : (M k).set k (Lib.lowerB c) = M (k + 1) := by rw [hc]; exact HN.out k hlt
      have hid : (M k).set k c = M k := by
        have h1 := HA.out k hlt
        rw [← hc] at h1
        rw [← h1, List.getD_eq_getElem?_getD, List.getElem?_eq_getElem hkc]
        simp
      have hc256 : c.toNat < 256 := c.toNat_lt
      obtain ⟨m, hm⟩ : ∃ m, m = c.toNat := ⟨_, rfl⟩
      unfold vb at hcell
      rw [← hm] at hcell hc256
      by_cases h1 : 65 ≤ m ∧ m ≤ 90
      · have b1 : (65 : Int) ≤ (m : Int) := by omega
        have b2 : (m : Int) ≤ 90 := by omega
        have hv : vb (Lib.lowerB c) = .int .u8 ((m + 32 : Nat) : Int) := by
          have e : (UInt8.ofNat (m + 32)).toNat = m + 32 := by rw [UInt8.toNat_ofNat']; omega
          rw [lower_at, ← hm, if_pos h1, vb, e]
        obtain ⟨b, hb⟩ : ∃ b, b = m + 32 := ⟨_, rfl⟩
        obtain ⟨a, ha⟩ : ∃ a, a = m - 65 := ⟨_, rfl⟩
        have hw1 : IntKind.u8.wrap ((m : Int) - 65) = (a : Int) := by rw [ha]; simp [IntKind.wrap, IntKind.signed, IntKind.bits]; omega
        have hw2 : IntKind.u8.wrap ((a : Int) + 97) = (b : Int) := by rw [ha, hb]; simp [IntKind.wrap, IntKind.signed, IntKind.bits]; omega
        rw [← hb] at hv
        rw [hv] at hst
        have hst := Lib.hid hst
        have hkp2 := Lib.hid (below_setCell hkp g k (.int .u8 (b : Int)) HG.out)
        clear hv hW hkp hsame hid hc hm ha hb h1 hkc hc256
        go_wp2_with fail
        go_roundw
        case rel => exact ⟨k + 1, by omega, by go_num, hst.out, hkp2.out⟩
        case measure => simp [intOf]; omega
      · have hv : Lib.lowerB c = c := by rw [lower_at, ← hm, if_neg h1]
        have hW2 : Wb wr g (M (k + 1)) := by
          rw [← hsame, hv, hid]
          exact hW
        have hW2 := Lib.hid hW2
        have hkp2 := Lib.hid hkp
        have hm2 := Lib.hid hm
        by_cases h2 : 65 ≤ m
        · have b1 : (65 : Int) ≤ (m : Int) := by omega
          have b2 : ¬ (m : Int) ≤ 90 := by omega
          clear hv hW hkp hsame hid hc hm h1 hkc hc256 hst hfz
          go_wp2_with fail
          go_roundw
          case rel => exact ⟨k + 1, by omega, by go_num, hW2.out, hkp2.out⟩
          case measure => simp [intOf]; omega
        · have b1 : ¬ (65 : Int) ≤ (m : Int) := by omega
          clear hv hW hkp hsame hid hc hm h1 hkc hc256 hst hfz
          go_wp2_with fail
          go_roundw
          case rel => exact ⟨k + 1, by omega, by go_num, hW2.out, hkp2.out⟩
          case measure => simp [intOf]; omega
    · have hkS : ¬ (k : Int) < (S : Int) := by omega
      have hk' : k = S := by omega
      have hbs := hW.bs
      rw [HL.out, hk', HE.out] at hbs
      have hkp2 := Lib.hid hkp
      have hbs := Lib.hid hbs
      clear hW hkp hk' hlt
      go_wp2_with ((with_reducible show wpList _ _ _ (⟨some 29, .convert _ _ _, _, _, _, _⟩ :: _) _ _); refine wp_str _ rfl (.tmp 28) rfl _ (some ⟨g, 0, none⟩) _ cap _ rfl hbs.out ?_; simp only [Act.put, List.setIfInBounds_toArray, List.set_cons_zero, List.set_cons_succ])
      go_ret
      exact ⟨rfl, hkp2.out⟩
end Go.Proofs.YtcepigekibidfaaGreatDoor
namespace Go.Proofs.YtcepigekibidfaaGreatDoor
open Go.RowKit

theorem disable (w : World) : (callFunc 200 #[]).run Tryz.prog w = .ok (.value (.tuple #[])) w := run_call_mark0 Tryz.func200 (by kernel_rfl) (by kernel_rfl) (by kernel_rfl) .disable (by kernel_rfl) w
theorem enable (w : World) : (callFunc 202 #[]).run Tryz.prog w = .ok (.value (.tuple #[])) w := run_call_mark0 Tryz.func202 (by kernel_rfl) (by kernel_rfl) (by kernel_rfl) .enable (by kernel_rfl) w
theorem acquire (a : Addr) (w : World) : (callFunc 203 #[.pointer (some a)]).run Tryz.prog w = .ok (.value (.tuple #[])) w := run_call_marked Tryz.func203 (by kernel_rfl) (by kernel_rfl) (by kernel_rfl) .acquire (by kernel_rfl) a w
theorem releaseMerge (a : Addr) (w : World) : (callFunc 205 #[.pointer (some a)]).run Tryz.prog w = .ok (.value (.tuple #[])) w := run_call_marked Tryz.func205 (by kernel_rfl) (by kernel_rfl) (by kernel_rfl) .releaseMerge (by kernel_rfl) a w

/-- '(*sync/atomic.Bool).Store(true)', entered as a deferred call. -/
theorem store_deferred (a : Addr) (x : Value) (u : FrameMode) (w : World) (hc : w.cell? a = some x) (hz : w.frozen? a = false) :
    CallsD Tryz.prog 147 #[.pointer (some a), .bool true] u w fun e u' w' => u' = u ∧ (e = .returned (.tuple #[]) ∧ w' = w.drew.setCell a (.int .u32 1)) := by
  have hc' : w.drew.cell? a = some x := by go_simp
  have hz' : w.drew.frozen? a = false := by go_simp
  have hst := run_call_store (P := Tryz.prog) Tryz.func179 (by kernel_rfl) (by kernel_rfl) (by kernel_rfl) (by kernel_rfl) (k := .u32) (y := 1) hc' hz'
  go_enter_d Tryz.func147, Tryz.ntmps147
  go_wp2
  go_region_calls
  all_goals (go_end0; exact ⟨rfl, rfl⟩)

set_option maxRecDepth 100000 in
set_option maxHeartbeats 1600000 in
/-- '(*sync.Mutex).Unlock', entered as a deferred call, the lock held and nobody waiting. -/
theorem unlock_deferred (a : Addr) (u : FrameMode) (w : World) (hc : w.cell? a = some (.int .i32 1)) (hz : w.frozen? a = false) :
    CallsD Tryz.prog 146 #[.pointer (some a)] u w fun e u' w' => u' = u ∧ (e = .returned (.tuple #[]) ∧ w' = w.setCell a (.int .i32 0)) := by
  have hd := disable
  have he := enable
  have hr := releaseMerge
  have hadd := run_call_add (P := Tryz.prog) Tryz.func206 (by kernel_rfl) (by kernel_rfl) (by kernel_rfl) .i32 (by kernel_rfl) (y := -1) (s := 0) hc hz (by simp [go_sem]; rfl)
  have hcv := run_convert_to_unsafe (P := Tryz.prog) (src := 225) (dst := 185) Tryz.underlying225 Tryz.underlying185 (by kernel_rfl) hc
  go_enter_d Tryz.func146, Tryz.ntmps146
  go_wp2
  go_end0
  go_wp2
  go_end0
  exact ⟨rfl, rfl⟩

set_option maxRecDepth 100000 in
set_option maxHeartbeats 1600000 in
/-- '(*sync.Mutex).Lock', the lock free. -/
theorem lock_free (a : Addr) (w : World) (hc : w.cell? a = some (.int .i32 0)) (hz : w.frozen? a = false) :
    Calls Tryz.prog 145 #[.pointer (some a)] w fun e w' => e = .returned (.tuple #[]) ∧ w' = w.setCell a (.int .i32 1) := by
  have hd := disable
  have he := enable
  have ha := acquire
  have hcas := run_call_cas_hit (P := Tryz.prog) Tryz.func201 (by kernel_rfl) (by kernel_rfl) (by kernel_rfl) .i32 (by kernel_rfl) (y := 1) hc hz
  have hc' : (w.setCell a (.int .i32 1)).cell? a = some (.int .i32 1) := World.cell?_setCell_same w a _ hc
  have hcv := run_convert_to_unsafe (P := Tryz.prog) (src := 225) (dst := 185) Tryz.underlying225 Tryz.underlying185 (by kernel_rfl) hc'
  go_enter Tryz.func145, Tryz.ntmps145
  go_wp2
  first | go_end0 | (simp only [Exit.inBlock, Exit.then]; refine bodyPost_ret (results_none rfl _ _ _) rfl ?_) | refine bodyPost_ret (results_none rfl _ _ _) rfl ?_
  go_wp2
  go_end0
  exact ⟨rfl, rfl⟩
end Go.Proofs.YtcepigekibidfaaGreatDoor
namespace Go.Proofs.YtcepigekibidfaaGreatDoor
open Go.RowKit

def r6 : List (List UInt8) := [[9], [], [10], [], [13], []]
/-- A replacer's cells: done, the lock's two, what was built, what it was made of. -/
def rpC (d s : Int) (r sl : Value) : List Value := [.int .u32 d, .int .i32 s, .int .u32 0, r, sl]
theorem build115 (A : Option Addr) (n c : Nat) (w : World) : (Instr.build 115 #[(2, .slice A n c)]).run Tryz.prog w = .ok (.agg (rpC 0 0 .nilIface (.slice A n c)).toArray) w := by kernel_rfl

set_option maxHeartbeats 2000000 in
theorem new_any (b : Nat) (w : World) (hr : ∀ (j : Nat) (p : List UInt8), r6[j]? = some p → w.cell? ⟨b, 0 + j, none⟩ = some (vstr p)) :
    Calls Tryz.prog 57 #[.slice (some ⟨b, 0, none⟩) 6 6] w fun e w' => ∃ g A c, e = .returned (.pointer (some ⟨g, 0, none⟩)) ∧ Below w.heap.size w w' ∧ w.heap.size ≤ g ∧ Blk w' g 115 (rpC 0 0 .nilIface (.slice A 6 c)) ∧ OwnT w' w.heap.size (.slice A 6 c) 6 r6 ∧ Value.ownBlock (.slice A 6 c) ≠ some g := by
  have hr := Lib.hid hr
  go_enter Tryz.func57, Tryz.ntmps57
  go_wp2_with (first
    | ((with_reducible show wpList _ _ _ (⟨some 9, .call _, _, _, _, _⟩ :: _) _ _); refine wp_appT _ rfl (.const (.slice none 0 0)) (.tmp 8) rfl w.heap.size _ 0 [] rfl (ownT_nil w _) b 0 6 6 r6 rfl rfl hr.out (by omega) (Nat.le_refl _) 6 rfl ?_; intro A1 c1 w1 hc1 hown1 hb1 hk1 hg1; simp only [Act.put, List.setIfInBounds_toArray, List.set_cons_zero, List.set_cons_succ])
    | ((with_reducible show wpList _ _ _ (⟨some 10, .build _ _, _, _, _, _⟩ :: _) _ _); refine wp_build1 _ rfl 115 2 (.tmp 9) rfl _ rfl _ (build115 A1 6 c1 _) ?_; simp only [Act.put, List.setIfInBounds_toArray, List.set_cons_zero, List.set_cons_succ])
    | ((with_reducible show wpList _ _ _ (⟨some 11, .box _ _, _, _, _, _⟩ :: _) _ _); refine wp_box _ rfl 115 _ rfl (rpC 0 0 .nilIface (.slice A1 6 c1)) rfl ?_; intro w2 g2 B2 F2; simp only [Act.put, List.setIfInBounds_toArray, List.set_cons_zero, List.set_cons_succ]))
  go_ret
  have hown1 : OwnT w1 w.heap.size (.slice A1 6 c1) 6 r6 := by simpa using hown1
  refine ⟨g2, A1, c1, rfl, hb1.trans (F2.below.mono hb1.size), ?_, B2, hown1.kept F2.below, ?_⟩
  · rw [F2.is]; exact hb1.size
  · intro e
    have := (World.ownsRow.lt hown1 g2 e).2
    rw [F2.is] at this
    omega
end Go.Proofs.YtcepigekibidfaaGreatDoor
