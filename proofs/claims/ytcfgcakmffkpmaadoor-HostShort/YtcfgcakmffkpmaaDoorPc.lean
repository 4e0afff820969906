/-
  What host.piece answers; nothing turns. Condition: texts of at most 100000000 bytes.
-/
import Derived.Test.YtcfgcakmffkpmaaDoorRowsH
namespace Go.Proofs.YtcfgcakmffkpmaaDoor
open Go.RowKit

/-- What one to four digits to base sixteen tell. -/
def pc (l : List UInt8) : Option Nat := if l = [] ∨ 4 < l.length then none else val 16 0 l
def pcV (o : Option Nat) : Value := .tuple #[.int .u16 ((o.getD 0 : Nat) : Int), .bool o.isSome]
theorem val16_lt : ∀ (l : List UInt8) (n m : Nat), val 16 n l = some m → m < (n + 1) * 16 ^ l.length
  | [], n, m, h => by
    simp [val] at h
    simp
    omega
  | c :: r, n, m, h => by
    rw [val] at h
    split at h
    · rename_i hd
      have ih := val16_lt r _ m h
      have h1 : min (n * 16 + dig c) 4294967296 + 1 ≤ (n + 1) * 16 := by omega
      have h2 := Nat.mul_le_mul_right (16 ^ r.length) h1
      rw [List.length_cons, Nat.pow_succ']
      rw [Nat.mul_assoc] at h2
      omega
    · cases h
theorem pc_lt (l : List UInt8) (m : Nat) (h : pc l = some m) : m < 65536 := by
  unfold pc at h
  split at h
  · cases h
  · rename_i hn
    have h1 := val16_lt l 0 m h
    have h2 : 16 ^ l.length ≤ 16 ^ 4 := Nat.pow_le_pow_right (by omega) (by simp at hn; omega)
    have e : (16 : Nat) ^ 4 = 65536 := by decide
    simp at h1
    omega

set_option maxHeartbeats 4000000 in
theorem piece_any (l : List UInt8) (w : World) (hl : l.length ≤ 100000000) : Calls Tryd.prog 44 #[.string (str l)] w fun e w' => e = .returned (pcV (pc l)) ∧ w' = w := by
  have hsz := str_size l
  have hem := str_empty l
  have V := value16 l w hl
  rw [valV_pair] at V
  by_cases h : l = [] ∨ 4 < l.length
  · have hp : Hid (pc l = none) := by show _ = _; unfold pc; rw [if_pos h]
    obtain ⟨S, hS⟩ : ∃ S, S = l.length := ⟨_, rfl⟩
    rw [← hS] at hsz h hl
    by_cases he : l = []
    · have hem2 : (str l).toList.isEmpty = true := by rw [hem]; simp [he]
      clear hem he h V hS
      go_enter Tryd.func44, Tryd.ntmps44
      go_wp2_with fail
      go_ret2
      rw [hp.out]
      exact ⟨rfl, rfl⟩
    · have hem2 : (str l).toList.isEmpty = false := by rw [hem]; simp [he]
      have h4 : decide ((4 : Int) < (S : Int)) = true := by simp; rcases h with h | h; (· exact absurd h he); omega
      clear hem he h V hS
      go_enter Tryd.func44, Tryd.ntmps44
      go_wp2_with fail
      go_ret2
      rw [hp.out]
      exact ⟨rfl, rfl⟩
  · have hp : pc l = val 16 0 l := by unfold pc; rw [if_neg h]
    have hlt := pc_lt l
    rw [← hp] at V
    obtain ⟨S, hS⟩ : ∃ S, S = l.length := ⟨_, rfl⟩
    rw [← hS] at hsz h hl
    have hem2 : (str l).toList.isEmpty = false := by rw [hem]; simp; exact fun e => h (.inl e)
    have h4 : decide ((4 : Int) < (S : Int)) = false := by simp; have : ¬ 4 < S := fun e => h (.inr e); omega
    obtain ⟨o, ho⟩ : ∃ o, o = pc l := ⟨_, rfl⟩
    rw [← ho] at V hlt ⊢
    have hx : o.getD 0 < 65536 := by
      cases o with
      | none => simp
      | some m => exact hlt m rfl
    unfold pcV
    obtain ⟨x, hx'⟩ : ∃ x, x = o.getD 0 := ⟨_, rfl⟩
    obtain ⟨b, hb⟩ : ∃ b, b = o.isSome := ⟨_, rfl⟩
    rw [← hx', ← hb] at V ⊢
    rw [← hx'] at hx
    have HV := Lib.hid V
    have hwr : IntKind.u16.wrap (x : Int) = (x : Int) := by rw [IntKind.wrap_u16]; omega
    clear hem h V hS hp hlt ho hx' hb
    go_enter Tryd.func44, Tryd.ntmps44
    go_wp2_with (go_at_call 39; with_reducible refine HV.out.mono ?_; rintro e w1 ⟨rfl, rfl⟩)
    go_ret2
    exact ⟨rfl, rfl⟩

/-- Two results, the first of which lies in a cell. -/
theorem ret_cell2 {fn : Func} {R : Ending → World → Prop} {a : Act} {w : World} (p q : Tmp) (ty : TypeId) (hf : fn.results = #[.cell p ty, .tmp q]) (b : Nat) (cs : List Value) (d : TypeDesc)
    (hx : a.tmps.getD p undef = .pointer (some ⟨b, 0, none⟩)) (hc : w.rangeAt b 0 cs) (hu : Tryd.prog.underlying ty = some d) (hd : d.isRow = true) (hi : (Tryd.prog.info? ty).map (·.size) = some cs.length)
    (hdef : a.defers = []) (u : Value) (hq : a.tmps.getD q undef = u) (hR : R (.returned (.tuple #[.agg cs.toArray, u])) w) : bodyPost Tryd.prog fn R .ret a w := by
  refine bodyPost_ret (v := .tuple #[.agg cs.toArray, u]) ?_ hdef hR
  have hl := run_loadVar_mid (P := Tryd.prog) w b 0 ty cs d hc hu hd hi
  simp only [results, hf]
  simp only [Array.getD_eq_getD_getElem?] at hx hq
  simp [hx, hq, asAddr, hl]
end Go.Proofs.YtcfgcakmffkpmaaDoor
