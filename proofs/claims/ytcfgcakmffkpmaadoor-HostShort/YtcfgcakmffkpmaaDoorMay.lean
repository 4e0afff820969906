/-
  What host.mayBe answers, and strings.ToLower of what may be; nothing that was there turns. Condition: texts of at most 100000000 bytes.
-/
import Derived.Test.YtcfgcakmffkpmaaDoorIpc
namespace Go.Proofs.YtcfgcakmffkpmaaDoor
open Go.RowKit

def barred : List UInt8 := [35, 37, 47, 58, 60, 62, 63, 64, 91, 92, 93, 94, 124]
/-- May a name have the byte? -/
def okc (c : UInt8) : Bool := decide (33 ≤ c.toNat) && decide (c.toNat ≤ 126) && !barred.contains c
def may (l : List UInt8) : Bool := l.all okc && decide (l ≠ [])
theorem indexByte_iff (c : UInt8) : ∀ l : List UInt8, decide (0 ≤ Lib.indexByte l c) = l.contains c
  | [] => by simp [Lib.indexByte]
  | b :: l => by
    have ih := indexByte_iff c l
    have hg := Lib.indexByte_ge l c
    rw [Lib.indexByte]
    by_cases h : b = c
    · simp [h]
    · rw [if_neg (by simpa using h)]
      have e : (b :: l).contains c = l.contains c := by
        simp [Ne.symm h]
      rw [e, ← ih]
      split
      · rename_i h2
        simp at h2
        rw [h2]
      · rename_i h2
        simp at h2
        rw [Bool.eq_iff_iff]
        simp
        omega
theorem bar_any (c : UInt8) (w : World) : ∃ i : Int, (decide (0 ≤ i) = barred.contains c) ∧ Calls Tryd.prog 49 #[.string ⟨#[35, 37, 47, 58, 60, 62, 63, 64, 91, 92, 93, 94, 124]⟩, .int .u8 (c.toNat : Int)] w fun e w' => e = .returned (.int .i64 i) ∧ w' = w := by
  refine ⟨Lib.indexByte barred c, indexByte_iff c barred, ?_⟩
  have h := Tryd.strings_IndexByte ⟨#[35, 37, 47, 58, 60, 62, 63, 64, 91, 92, 93, 94, 124]⟩ (c.toNat : Int) w
  have e : ((c.toNat : Int).toNat.toUInt8) = c := by simp
  rw [e] at h
  exact h

set_option maxHeartbeats 4000000 in
theorem may_any (l : List UInt8) (w : World) (hl : l.length ≤ 100000000) : Calls Tryd.prog 34 #[.string (str l)] w fun e w' => e = .returned (.bool (may l)) ∧ w' = w := by
  have hsz := str_size l
  obtain ⟨S, hS⟩ : ∃ S, S = l.length := ⟨_, rfl⟩
  have hgb : Hid (∀ k, k < S → ∀ h, ((str l)[k]'h).toNat = (l.getD k 0).toNat) := fun k hk h => str_at l k (by rw [← hS]; exact hk) h
  obtain ⟨R, hR⟩ : ∃ R, R = may l := ⟨_, rfl⟩
  rw [← hR]
  rw [← hS] at hsz hl
  have hem := str_empty l
  have HS : Hid (S = l.length ∧ R = (l.all okc && decide (l ≠ []))) := ⟨hS, hR⟩
  obtain ⟨E, hE⟩ : ∃ E, E = decide (l = []) := ⟨_, rfl⟩
  rw [← hE] at hem
  have HE := Lib.hid hE
  clear hS hR hE
  go_enter Tryd.func34, Tryd.ntmps34
  go_wp2_with fail
  go_loop [7] (fun i => ∃ (k : Nat), k ≤ S ∧ i = .int .i64 (k : Int) ∧ (l.drop k).all okc = l.all okc) (fun i => S - (intOf i).toNat)
  case atStart => exact ⟨0, by omega, rfl, rfl⟩
  case round =>
    obtain ⟨k, hk, rfl, hA⟩ := hrel
    by_cases hlt : k < S
    · have hkS : (k : Int) < (S : Int) := by omega
      obtain ⟨c, hc⟩ : ∃ c, c = l.getD k 0 := ⟨_, rfl⟩
      have hcons : l.drop k = c :: l.drop (k + 1) := by
        have hk' : k < l.length := by rw [← HS.out.1]; exact hlt
        rw [List.drop_eq_getElem_cons hk', hc]
        simp [List.getD, List.getElem?_eq_getElem hk']
      have HG := fun h => hgb.out k hlt h
      rw [← hc] at HG
      rw [hcons, List.all_cons] at hA
      obtain ⟨i, hi, HB⟩ := bar_any c w
      have hok : Hid (okc c = (decide (33 ≤ c.toNat) && decide (c.toNat ≤ 126) && !decide (0 ≤ i))) := by show _ = _; rw [hi]; rfl
      obtain ⟨m, hm⟩ : ∃ m, m = c.toNat := ⟨_, rfl⟩
      rw [← hm] at HG HB hok
      have HB' := Lib.hid HB
      have HA := Lib.hid hA
      clear hc hcons hm hi HB hA
      by_cases h1 : m < 33
      · have h1b : decide ((m : Int) < 33) = true := by simp; omega
        have hno : Hid (okc c = false) := by show _ = _; rw [hok.out, show decide (33 ≤ m) = false by simp; omega]; rfl
        clear HB'
        go_wp2_with fail
        go_ret
        refine ⟨?_, rfl⟩
        rw [HS.out.2, ← HA.out, hno.out]
        rfl
      · have h1b : decide ((m : Int) < 33) = false := by simp; omega
        by_cases h2 : 126 < m
        · have h2b : decide ((126 : Int) < (m : Int)) = true := by simp; omega
          have hno : Hid (okc c = false) := by show _ = _; rw [hok.out, show decide (m ≤ 126) = false by simp; omega]; simp
          clear HB'
          go_wp2_with fail
          go_ret
          refine ⟨?_, rfl⟩
          rw [HS.out.2, ← HA.out, hno.out]
          rfl
        · have h2b : decide ((126 : Int) < (m : Int)) = false := by simp; omega
          by_cases h3 : 0 ≤ i
          · have h3b : decide ((0 : Int) ≤ i) = true := by simp; omega
            have hno : Hid (okc c = false) := by show _ = _; rw [hok.out, h3b]; simp
            go_wp2_with (go_at_call 49; with_reducible refine HB'.out.mono ?_; rintro e w1 ⟨rfl, rfl⟩)
            go_ret
            refine ⟨?_, rfl⟩
            rw [HS.out.2, ← HA.out, hno.out]
            rfl
          · have h3b : decide ((0 : Int) ≤ i) = false := by simp; omega
            have hyes : Hid (okc c = true) := by show _ = _; rw [hok.out, h3b, show decide (33 ≤ m) = true by simp; omega, show decide (m ≤ 126) = true by simp; omega]; rfl
            go_wp2_with (go_at_call 49; with_reducible refine HB'.out.mono ?_; rintro e w1 ⟨rfl, rfl⟩)
            go_round
            case rel =>
              refine ⟨k + 1, by omega, by go_num, ?_⟩
              rw [← HA.out, hyes.out]
              rfl
            case measure => simp [intOf]; omega
    · have hk' : Hid (k = S) := by show k = S; omega
      have hkS : (S : Int) ≤ (k : Int) := by omega
      clear hk hlt
      have HA := Lib.hid hA
      clear hA
      go_wp2_with fail
      go_ret
      refine ⟨?_, rfl⟩
      have h1 := HA.out
      rw [hk'.out, HS.out.1, List.drop_length] at h1
      rw [HS.out.2, ← h1, HE.out]
      simp

theorem may_ascii (l : List UInt8) (h : may l = true) : ∀ (j : Nat) (b : UInt8), (str l).data.toList[j]? = some b → b.toNat < 128 := by
  intro j b hj
  have hj' : l[j]? = some b := hj
  simp [may] at h
  have := h.1 b (List.mem_of_getElem? hj')
  simp [okc] at this
  omega
def low (l : List UInt8) : List UInt8 := Lib.toLowerA l
theorem lower_any (l : List UInt8) (w : World) (hl : l.length ≤ 100000000) (h : may l = true) : Calls Tryd.prog 35 #[.string (str l)] w fun e w' => e = .returned (.string (str (low l))) ∧ Below w.heap.size w w' :=
  Tryd.strings_ToLower_ascii (str l) w (by rw [str_size]; omega) (may_ascii l h)
end Go.Proofs.YtcfgcakmffkpmaaDoor
