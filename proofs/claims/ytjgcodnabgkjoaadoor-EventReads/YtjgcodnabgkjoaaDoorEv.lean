/-
  Events as data: what a kind has (the program's table), an event's cells in memory, what the reader gathers text by text and number by number. No condition.
-/
import Derived.Test.YtjgcodnabgkjoaaDoorWr
import Derived.Test.YtjgcodnabgkjoaaDoorFlds
namespace Go.Proofs.YtjgcodnabgkjoaaDoor
open Go.RowKit

/-- What a kind has: is it a fetch's; how many texts; what its numbers are below. -/
structure Hav where
  fetch : Bool
  texts : Nat
  bl : List Nat
def hav : Nat → Hav
  | 1 => ⟨false, 1, [0, 0, 0]⟩
  | 2 => ⟨false, 1, [0, 0, 0]⟩
  | 3 => ⟨true, 4, [4, 3, 3]⟩
  | 4 => ⟨true, 2, [0, 0, 0]⟩
  | 5 => ⟨true, 0, [0, 0, 0]⟩
  | 6 => ⟨true, 2, [0, 0, 0]⟩
  | 7 => ⟨true, 0, [1000, 0, 0]⟩
  | 8 => ⟨true, 0, [0, 0, 0]⟩
  | 9 => ⟨true, 2, [0, 0, 0]⟩
  | 10 => ⟨true, 0, [1000, 0, 0]⟩
  | 11 => ⟨true, 1, [0, 0, 0]⟩
  | 12 => ⟨true, 1, [0, 0, 0]⟩
  | 13 => ⟨true, 0, [0, 0, 0]⟩
  | 14 => ⟨true, 0, [4, 0, 0]⟩
  | _ => ⟨false, 0, [0, 0, 0]⟩
def HavOk (h : Hav) : Prop := h.texts ≤ 4 ∧ h.bl.length = 3 ∧ ∀ i, h.bl.getD i 0 ≤ 1000
def havB (h : Hav) : Bool := decide (h.texts ≤ 4) && decide (h.bl.length = 3) && h.bl.all fun b => decide (b ≤ 1000)
theorem havOk_of {h : Hav} (hb : havB h = true) : HavOk h := by
  simp only [havB, Bool.and_eq_true, decide_eq_true_eq, List.all_eq_true] at hb
  refine ⟨hb.1.1, hb.1.2, fun i => ?_⟩
  rw [List.getD_eq_getElem?_getD]
  cases hx : h.bl[i]? with
  | none => simp
  | some b => exact hb.2 b (List.mem_of_getElem? hx)
theorem hav_ok (k : Nat) : HavOk (hav k) := by
  apply havOk_of
  match k with
  | 0 | 1 | 2 | 3 | 4 | 5 | 6 | 7 | 8 | 9 | 10 | 11 | 12 | 13 | 14 => rfl
  | n + 15 => rfl
def havc (h : Hav) : List Value := .bool h.fetch :: .int .i64 (h.texts : Int) :: h.bl.map fun (b : Nat) => .int .i64 (b : Int)
theorem havc_length {h : Hav} (hk : HavOk h) : (havc h).length = 5 := by simp [havc, hk.2.1]
theorem havc_one (h : Hav) : ∀ u ∈ havc h, u.oneCell' = true := by
  intro u hu
  simp only [havc, List.mem_cons, List.mem_map] at hu
  rcases hu with rfl | rfl | ⟨b, _, rfl⟩ <;> rfl
theorem havc_bl {h : Hav} (hk : HavOk h) {i : Nat} (hi : i < 3) : (havc h)[2 + i]? = some (.int .i64 ((h.bl.getD i 0 : Nat) : Int)) := by
  have hl : i < h.bl.length := by rw [hk.2.1]; exact hi
  rw [show 2 + i = i + 1 + 1 by omega]
  simp only [havc, List.getElem?_cons_succ, List.getElem?_map, List.getElem?_eq_getElem hl, List.getD_eq_getElem?_getD, Option.map_some, Option.getD_some]

/-- An event. -/
structure Ev where
  kind : Int
  time : Nat
  id : Nat
  ts : List (List UInt8)
  ns : List Int
def evc (e : Ev) : List Value := .int .i64 e.kind :: .int .u64 (e.time : Int) :: .int .u64 (e.id : Int) :: ((e.ts.map fun t => .string (str t)) ++ e.ns.map fun n => .int .i64 n)
/-- An event has four texts and three numbers, of the size that their types allow. -/
def EvOk (e : Ev) : Prop := e.ts.length = 4 ∧ e.ns.length = 3
theorem evc_length {e : Ev} (h : EvOk e) : (evc e).length = 10 := by simp [evc, h.1, h.2]
theorem evc_one (e : Ev) : ∀ u ∈ evc e, u.oneCell' = true := by
  intro u hu
  simp only [evc, List.mem_cons, List.mem_append, List.mem_map] at hu
  rcases hu with rfl | rfl | rfl | ⟨t, _, rfl⟩ | ⟨n, _, rfl⟩ <;> rfl
theorem evc_text {e : Ev} (h : EvOk e) {i : Nat} (hi : i < 4) : (evc e)[3 + i]? = some (.string (str (e.ts.getD i []))) := by
  have hl : i < e.ts.length := by rw [h.1]; exact hi
  rw [show 3 + i = i + 1 + 1 + 1 by omega]
  simp only [evc, List.getElem?_cons_succ]
  rw [List.getElem?_append_left (by simpa using hl)]
  simp [List.getElem?_eq_getElem hl, List.getD_eq_getElem?_getD]
theorem evc_num {e : Ev} (h : EvOk e) {i : Nat} (hi : i < 3) : (evc e)[7 + i]? = some (.int .i64 (e.ns.getD i 0)) := by
  have hl : i < e.ns.length := by rw [h.2]; exact hi
  rw [show 7 + i = (4 + i) + 1 + 1 + 1 by omega]
  simp only [evc, List.getElem?_cons_succ]
  rw [List.getElem?_append_right (by simp [h.1])]
  simp [h.1, List.getElem?_eq_getElem hl, List.getD_eq_getElem?_getD]
theorem evc_setText {e : Ev} (h : EvOk e) {i : Nat} (hi : i < 4) (t : List UInt8) : (evc e).set (3 + i) (.string (str t)) = evc { e with ts := e.ts.set i t } := by
  rw [show 3 + i = i + 1 + 1 + 1 by omega]
  simp only [evc, List.set_cons_succ]
  rw [List.set_append_left _ _ (by simp [h.1, hi]), List.map_set]
theorem evc_setNum {e : Ev} (h : EvOk e) {i : Nat} (_hi : i < 3) (n : Int) : (evc e).set (7 + i) (.int .i64 n) = evc { e with ns := e.ns.set i n } := by
  rw [show 7 + i = (4 + i) + 1 + 1 + 1 by omega]
  simp only [evc, List.set_cons_succ]
  rw [List.set_append_right _ _ (by simp [h.1])]
  simp [h.1, List.map_set]
theorem EvOk.setText {e : Ev} (h : EvOk e) (i : Nat) (t : List UInt8) : EvOk { e with ts := e.ts.set i t } := ⟨by simp [h.1], h.2⟩
theorem EvOk.setNum {e : Ev} (h : EvOk e) (i : Nat) (n : Int) : EvOk { e with ns := e.ns.set i n } := ⟨h.1, by simp [h.2]⟩

/-- What the reader has behind i texts: they, the place, the error. -/
def txS (l : List UInt8) (ts : List (List UInt8)) (a e : Nat) : Nat → List (List UInt8) × Nat × Nat
  | 0 => (ts, a, e)
  | i + 1 => ((txS l ts a e i).1.set i (txR l ((txS l ts a e i).1.getD i []) (txS l ts a e i).2.1 (txS l ts a e i).2.2).1, (txR l ((txS l ts a e i).1.getD i []) (txS l ts a e i).2.1 (txS l ts a e i).2.2).2)
theorem txS_length (l : List UInt8) (ts : List (List UInt8)) (a e : Nat) : ∀ i, (txS l ts a e i).1.length = ts.length
  | 0 => rfl
  | i + 1 => by simp [txS, txS_length l ts a e i]
/-- The same of numbers. -/
def nmS (bl : List Nat) (l : List UInt8) (ns : List Int) (a e : Nat) : Nat → List Int × Nat × Nat
  | 0 => (ns, a, e)
  | i + 1 => if 0 < bl.getD i 0 then ((nmS bl l ns a e i).1.set i ((smR (bl.getD i 0) l (nmS bl l ns a e i).2.1 (nmS bl l ns a e i).2.2).1 : Int), (smR (bl.getD i 0) l (nmS bl l ns a e i).2.1 (nmS bl l ns a e i).2.2).2) else nmS bl l ns a e i
theorem nmS_length (bl : List Nat) (l : List UInt8) (ns : List Int) (a e : Nat) : ∀ i, (nmS bl l ns a e i).1.length = ns.length
  | 0 => rfl
  | i + 1 => by
    simp only [nmS]
    split
    · simp [nmS_length bl l ns a e i]
    · exact nmS_length bl l ns a e i
/-- What the writer has behind i texts, i numbers. -/
def txW (ts : List (List UInt8)) (i : Nat) : List UInt8 := (ts.take i).flatMap fun t => leb t.length ++ t
def nmW (bl : List Nat) (ns : List Int) : Nat → List UInt8
  | 0 => []
  | i + 1 => nmW bl ns i ++ (if 0 < bl.getD i 0 then smW (bl.getD i 0) (ns.getD i 0).toNat else [])
theorem txW_succ (ts : List (List UInt8)) (i : Nat) (h : i < ts.length) : txW ts (i + 1) = txW ts i ++ (leb (ts.getD i []).length ++ ts.getD i []) := by
  unfold txW
  rw [List.take_succ_eq_append_getElem h, List.flatMap_append]
  simp [List.getD_eq_getElem?_getD, List.getElem?_eq_getElem h]
end Go.Proofs.YtjgcodnabgkjoaaDoor
