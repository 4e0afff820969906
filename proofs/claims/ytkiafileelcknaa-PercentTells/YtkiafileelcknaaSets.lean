/-
  The sets of package percent: function values that tell whether a byte is in a set. No condition.
-/
import Derived.Test.YtkiafileelcknaaArr
import Derived.Shelf.Abstract
import Derived.Lib.Bytealg
import Derived.RegionTactic
import Derived.BigRegion
namespace Go.Proofs.Ytkiafileelcknaa
open Go.RowKit

/-- The bytes that all sets have. -/
def c0 (c : UInt8) : Bool := decide (c.toNat < 32) || decide (126 < c.toNat)
/-- Is a byte among these? -/
def among (l : List UInt8) (c : UInt8) : Bool := l.contains c

/-- The blocks from lo to below hi are the same ones. -/
def Agree (lo hi : Nat) (w W : World) : Prop := ∀ k, lo ≤ k → k < hi → W.heap[k]? = w.heap[k]?
theorem Agree.refl (lo hi : Nat) (w : World) : Agree lo hi w w := fun _ _ _ => rfl
theorem Agree.trans {lo hi : Nat} {w w1 w2 : World} (h : Agree lo hi w w1) (k : Agree lo hi w1 w2) : Agree lo hi w w2 := fun i h1 h2 => (k i h1 h2).trans (h i h1 h2)
theorem Agree.mono {lo hi lo' hi' : Nat} {w W : World} (h : Agree lo hi w W) (h1 : lo ≤ lo') (h2 : hi' ≤ hi) : Agree lo' hi' w W := fun k a b => h k (by omega) (by omega)
theorem agree_below {lo hi B : Nat} {w W : World} (h : Below B w W) (hB : hi ≤ B) : Agree lo hi w W := fun k _ b => h.block k (by omega)
theorem agree_upd {lo hi b : Nat} {w W : World} (h : Upd b w W) (hb : b < lo ∨ hi ≤ b) : Agree lo hi w W := fun k _ _ => h.block k (by omega)
theorem agree_chg {lo hi b : Nat} {w W : World} (h : Chg b b w W) (hb : b < lo) (hh : hi ≤ w.heap.size) : Agree lo hi w W := fun k _ _ => h.block k (by omega) (by omega) (by omega)
theorem Blk.agree {w W : World} {lo hi b : Nat} {t : TypeId} {C : List Value} (h : Blk w b t C) (ha : Agree lo hi w W) (h1 : lo ≤ b) (h2 : b < hi) : Blk W b t C := (ha b h1 h2).trans h

/-- The function value f tells what p tells, in every world whose blocks from lo to below hi are those of w. -/
def Has (lo hi : Nat) (w : World) (f : Value) (p : UInt8 → Bool) : Prop :=
  ∃ g lb, f = .func (.func g) #[] lb ∧ Enters Try.prog g ∧ ∀ (W : World) (c : UInt8), Agree lo hi w W → Calls Try.prog g (#[vb c] ++ lb) W fun e w' => e = .returned (.bool (p c)) ∧ w' = W

theorem Has.at_ {lo hi : Nat} {w W : World} {f : Value} {p : UInt8 → Bool} (h : Has lo hi w f p) (ha : Agree lo hi w W) : Has lo hi W f p := by
  obtain ⟨g, lb, e, en, hc⟩ := h
  exact ⟨g, lb, e, en, fun W' c hb' => hc W' c (ha.trans hb')⟩
theorem Has.wide {lo hi lo' hi' : Nat} {w : World} {f : Value} {p : UInt8 → Bool} (h : Has lo hi w f p) (h1 : lo' ≤ lo) (h2 : hi ≤ hi') : Has lo' hi' w f p := by
  obtain ⟨g, lb, e, en, hc⟩ := h
  exact ⟨g, lb, e, en, fun W' c hb' => hc W' c (hb'.mono h1 h2)⟩
theorem Has.one {lo hi : Nat} {w : World} {f : Value} {p : UInt8 → Bool} (h : Has lo hi w f p) : f.oneCell' = true := by
  obtain ⟨g, lb, rfl, _⟩ := h
  rfl

theorem has24 (lo hi : Nat) (w : World) : Has lo hi w (.func (.func 24) #[] #[]) (fun _ => false) := by
  refine ⟨24, #[], rfl, enters_of Try.func24 (by kernel_rfl) rfl, fun W c _ => ?_⟩
  go_enter Try.func24, Try.ntmps24
  go_wp2
  go_ret
  exact ⟨rfl, rfl⟩

theorem has25 (lo hi : Nat) (w : World) : Has lo hi w (.func (.func 25) #[] #[]) c0 := by
  refine ⟨25, #[], rfl, enters_of Try.func25 (by kernel_rfl) rfl, fun W c _ => ?_⟩
  unfold c0 vb
  generalize c.toNat = n
  by_cases h1 : n < 32 <;> by_cases h2 : 126 < n
  all_goals
    go_enter Try.func25, Try.ntmps25
    go_wp2
    all_goals first | (exfalso; omega) | (go_ret; exact ⟨by simp [h1, h2] <;> omega, rfl⟩)

theorem index_ge (l : List UInt8) (c : UInt8) : (0 ≤ Lib.indexByte l c) ↔ among l c = true := by
  induction l with
  | nil => simp [Lib.indexByte, among]
  | cons b l ih =>
    unfold Lib.indexByte
    have := Lib.indexByte_ge l c
    simp only [among, List.contains_cons] at ih ⊢
    by_cases h : b = c
    · subst h
      simp
    · have h' : (c == b) = false := by simpa using fun e => h e.symm
      rw [if_neg (by simpa using h), h', Bool.false_or]
      split <;> rename_i h2
      · have : Lib.indexByte l c = -1 := by simpa using h2
        rw [this] at ih
        simpa using ih
      · have h3 : ¬ Lib.indexByte l c = -1 := by simpa using h2
        rw [← ih]
        omega

theorem indexByte_any (l : List UInt8) (c : UInt8) (w : World) : Calls Try.prog 28 #[.string (str l), vb c] w fun e w' => e = .returned (.int .i64 (Lib.indexByte l c)) ∧ w' = w := by
  have h29 : ∀ W, Calls Try.prog 29 #[.string (str l), vb c] W fun e w' => e = .returned (.int .i64 (Lib.indexByte l c)) ∧ w' = W := by
    intro W
    unfold vb
    go_enter Try.func29, Try.ntmps29
    go_wp2
    rw [run_callFunc_extern Try.func30 (by kernel_rfl) (by kernel_rfl) (by kernel_rfl) (e := Extern.BytealgIndexByte.indexByte) (by kernel_rfl), Lib.run_indexByteString]
    simp only [Result.andThen]
    rw [Oper.upon_value]
    go_wp2
    go_ret
    refine ⟨?_, rfl⟩
    simp [str]
  unfold vb at h29 ⊢
  go_enter Try.func28, Try.ntmps28
  go_wp2_with (go_at_call 29; refine (h29 _).mono ?_; rintro e w' ⟨rfl, rfl⟩)
  go_ret
  exact ⟨rfl, rfl⟩

set_option maxHeartbeats 1000000 in
theorem has27 (lo hi : Nat) (w : World) (A B : Nat) (f : Value) (p : UInt8 → Bool) (l : List UInt8) (hA : lo ≤ A ∧ A < hi) (hB : lo ≤ B ∧ B < hi) (bA : Blk w A 34 [f]) (bB : Blk w B 9 [.string (str l)]) (hf : Has lo hi w f p) :
    Has lo hi w (.func (.func 27) #[] #[.pointer (some ⟨A, 0, none⟩), .pointer (some ⟨B, 0, none⟩)]) (fun c => p c || among l c) := by
  refine ⟨27, _, rfl, enters_of Try.func27 (by kernel_rfl) rfl, fun W c hb => ?_⟩
  obtain ⟨g, lb, rfl, en, hc⟩ := hf
  have cA' : W.cell? ⟨A, 0, none⟩ = some (.func (.func g) #[] lb) := (bA.agree hb hA.1 hA.2).cell rfl
  have cB' : W.cell? ⟨B, 0, none⟩ = some (.string (str l)) := (bB.agree hb hB.1 hB.2).cell rfl
  have hcall := hc W c hb
  have hidx := indexByte_any l c W
  have hge := index_ge l c
  have hen : ∀ (args : Array Value) (w : World), (callFunc g args).run Try.prog w = .ok (.enter g args) w := en
  unfold vb at hcall hidx ⊢
  generalize Lib.indexByte l c = ix at hidx hge
  generalize c.toNat = n at hcall hidx ⊢
  cases hp : p c <;> rw [hp] at hcall
  all_goals
    go_enter Try.func27, Try.ntmps27
    go_wp2_with (first | (go_at_fn g; with_reducible refine hcall.mono ?_; rintro e w' ⟨rfl, rfl⟩) | (go_at_call 28; with_reducible refine hidx.mono ?_; rintro e w' ⟨rfl, rfl⟩))
    go_ret
    refine ⟨?_, rfl⟩
    simp [hp, hge]
end Go.Proofs.Ytkiafileelcknaa
