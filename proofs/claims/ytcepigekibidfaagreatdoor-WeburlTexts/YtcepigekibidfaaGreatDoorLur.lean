/-
  A URL that came in as an argument. No condition.
-/
import Derived.Test.YtcepigekibidfaaGreatDoorWtx
import Derived.Lib.LaidTab
import Derived.Stop.LaidErr
import Derived.LaidSub
import Derived.Lay
import Derived.MakeChecks
import Derived.Deep.DeepHandedRow
import Derived.OpenShut
import Derived.ShutString
import Derived.WideShapes
namespace Go.Proofs.YtcepigekibidfaaGreatDoor
open Go.RowKit Go.WideShapes Go.ChangeShapes

theorem cells24u : Tryz.prog.cellsOf 24 = 6 := by kernel_rfl
theorem cells9u : Tryz.prog.cellsOf 9 = 1 := by kernel_rfl
theorem cells3u : Tryz.prog.cellsOf 3 = 1 := by kernel_rfl
theorem str_datau (s : ByteArray) : str s.data.toList = s := by
  obtain ⟨d⟩ := s
  simp [str]
theorem take_oneu {cs : List Value} {i : Nat} {v : Value} (h : (cs.drop i).take 1 = [v]) : cs[i]? = some v := by
  have h2 := congrArg (fun l => l[0]?) h
  simp only [List.getElem?_cons_zero] at h2
  rw [List.getElem?_take_of_lt (by omega), List.getElem?_drop] at h2
  simpa using h2
set_option maxRecDepth 100000 in
theorem open_url {H : Type} {enc : TypeId × Value → H} {W : World} {r : Reach} {b0 base : Nat} {sp : Nat → Bool} {held : Bool} {v : Value} {d : DataW H} {p : List MemPlace}
    (hv : Value.okWide Tryz.prog W r b0 24 v) (h : DataW.Trod enc Tryz.prog W base sp held 24 v d p) :
    ∃ u : U, (Lit.int .i64 u.port).wf = true ∧ v = uV u := by
  obtain ⟨cs, rfl, hsz⟩ := okWide_struct Tryz.underlying24 hv
  obtain ⟨fuel, hf⟩ := h
  obtain ⟨xs, n, _, _, _, hxl, hg⟩ := DataW.trod_struct Tryz.underlying24 hf
  rw [cells24u] at hsz
  have some_of : ∀ i, i < 6 → ∃ x, xs[i]? = some x := fun i hi => ⟨_, List.getElem?_eq_getElem (by rw [hxl]; exact hi)⟩
  obtain ⟨l⟩ := cs
  have hl : l.length = 6 := by simpa using hsz
  have int_at : ∀ i k t, i < 6 → Tryz.prog.underlying t = some (.int k) → (∀ x, xs[i]? = some x → DataW.trod enc Tryz.prog W base sp held n t ((l.drop i).take 1) = some x) → ∃ z, l[i]? = some (.int k z) ∧ (Lit.int k z).wf = true := by
    intro i k t hi ht hh
    obtain ⟨x, hx⟩ := some_of i hi
    obtain ⟨z, hz, _, hw⟩ := DataW.trod_int ht (hh x hx)
    exact ⟨z, take_oneu hz, hw⟩
  have str_at : ∀ i, i < 6 → (∀ x, xs[i]? = some x → DataW.trod enc Tryz.prog W base sp held n 9 ((l.drop i).take 1) = some x) → ∃ t : List UInt8, l[i]? = some (.string (str t)) := by
    intro i hi hh
    obtain ⟨x, hx⟩ := some_of i hi
    obtain ⟨s, hs, _, hm⟩ := DataW.trod_string Tryz.underlying9 (hh x hx)
    exact ⟨s.data.toList, by rw [str_datau]; exact take_oneu hs⟩
  obtain ⟨a, ha⟩ := str_at 0 (by omega) (fun x hx => by have h1 := hg 0 _ rfl; rw [hx] at h1; change DataW.trod enc Tryz.prog W base sp held n 9 ((l.drop 0).take (Tryz.prog.cellsOf 9)) = some x at h1; rw [cells9u] at h1; exact h1)
  obtain ⟨b, hb⟩ := str_at 1 (by omega) (fun x hx => by have h1 := hg 1 _ rfl; rw [hx] at h1; change DataW.trod enc Tryz.prog W base sp held n 9 ((l.drop 1).take (Tryz.prog.cellsOf 9)) = some x at h1; rw [cells9u] at h1; exact h1)
  obtain ⟨k, hk, wk⟩ := int_at 2 .i64 3 (by omega) Tryz.underlying3 (fun x hx => by have h1 := hg 2 _ rfl; rw [hx] at h1; change DataW.trod enc Tryz.prog W base sp held n 3 ((l.drop 2).take (Tryz.prog.cellsOf 3)) = some x at h1; rw [cells3u] at h1; exact h1)
  obtain ⟨c, hc⟩ := str_at 3 (by omega) (fun x hx => by have h1 := hg 3 _ rfl; rw [hx] at h1; change DataW.trod enc Tryz.prog W base sp held n 9 ((l.drop 3).take (Tryz.prog.cellsOf 9)) = some x at h1; rw [cells9u] at h1; exact h1)
  obtain ⟨q, hq⟩ := str_at 4 (by omega) (fun x hx => by have h1 := hg 4 _ rfl; rw [hx] at h1; change DataW.trod enc Tryz.prog W base sp held n 9 ((l.drop 4).take (Tryz.prog.cellsOf 9)) = some x at h1; rw [cells9u] at h1; exact h1)
  obtain ⟨f, hf'⟩ := str_at 5 (by omega) (fun x hx => by have h1 := hg 5 _ rfl; rw [hx] at h1; change DataW.trod enc Tryz.prog W base sp held n 9 ((l.drop 5).take (Tryz.prog.cellsOf 9)) = some x at h1; rw [cells9u] at h1; exact h1)
  refine ⟨⟨a, b, k, c, q, f⟩, wk, ?_⟩
  match l, hl with
  | [c0, c1, c2, c3, c4, c5], _ =>
    simp only [List.getElem?_cons_zero, List.getElem?_cons_succ, Option.some.injEq] at ha hb hk hc hq hf'
    subst ha hb hk hc hq hf'
    rfl
end Go.Proofs.YtcepigekibidfaaGreatDoor
