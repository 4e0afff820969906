/-
  What host.IPv4, Domain and mayBe answer; nothing that was there turns. Condition: texts of at most 100000000 bytes; the library's tables (Tabs).
-/
import Derived.Test.YtcfgcakmffkpmaaDoorIpb
namespace Go.Proofs.YtcfgcakmffkpmaaDoor
open Go.RowKit

/-- What the walks ask of the library's variables, here and in every world that keeps what is here. -/
structure T0 (w : World) : Prop where
  len : ∃ m, w.cell? ⟨0, 0, none⟩ = some (.int .i64 m)
  pow : Lib.TabIs Tryd.prog w "internal/strconv.uint64pow10" .u64 Lib.pow10Tab
  deb : w.cell? ⟨6, 15, none⟩ = some (.int .u8 4)
def Tabs (w : World) : Prop := ∀ w', Below w.heap.size w w' → T0 w'
theorem Tabs.here {w : World} (h : Tabs w) : T0 w := h w (Below.refl _ _)
theorem Tabs.kept {w w' : World} (h : Tabs w) (hb : Below w.heap.size w w') : Tabs w' := fun w2 h2 => h w2 (hb.trans (h2.mono hb.size))

/-- IPv4: the address, whether it ends in a number, whether it is wrong. -/
def ip4 (l : List UInt8) : Nat × Bool × Bool := if ends (prt l) then (match joinS (prt l) with | some n => (n, true, false) | none => (0, true, true)) else (0, false, false)
def errV (b : Bool) : Value := .int .i64 (if b then 7 else 0)
def ip4V (r : Nat × Bool × Bool) : Value := .tuple #[.int .u32 (r.1 : Int), .bool r.2.1, errV r.2.2]

theorem prt_len (l p : List UInt8) (h : p ∈ prt l) : p.length ≤ l.length := (spl_mem 46 l p (prt_mem l p h)).2.1
theorem prt_size (l : List UInt8) : (prt l).length ≤ l.length + 1 := by
  have h1 := spl_length 46 l
  have h2 : l.count 46 ≤ l.length := List.count_le_length
  unfold prt
  split
  · rw [List.length_dropLast]
    omega
  · omega

set_option maxHeartbeats 4000000 in
theorem four_any (l : List UInt8) (w : World) (hl : l.length ≤ 100000000) (ht : Tabs w) :
    Calls Tryd.prog 14 #[.string (str l)] w fun e w' => e = .returned (ip4V (ip4 l)) ∧ Below w.heap.size w w' := by
  obtain ⟨m, hm⟩ := ht.here.len
  have HS := Lib.hid (split_any l m w hl hm)
  have hmem : Hid (∀ p ∈ prt l, p.length ≤ 100000000) := fun p hp => Nat.le_trans (prt_len l p hp) hl
  have hne := Lib.hid (prt_ne l)
  have hsz : Hid ((prt l).length ≤ 100000001) := by have := prt_size l; show _ ≤ _; omega
  have hE : Hid (ip4 l = if ends (prt l) then (match joinS (prt l) with | some n => (n, true, false) | none => (0, true, true)) else (0, false, false)) := rfl
  obtain ⟨P, hP⟩ : ∃ P, P = prt l := ⟨_, rfl⟩
  obtain ⟨R, hR⟩ : ∃ R, R = ip4 l := ⟨_, rfl⟩
  rw [← hP] at HS hmem hne hsz hE
  rw [← hR] at hE ⊢
  obtain ⟨n, hn⟩ : ∃ n, n = P.length := ⟨_, rfl⟩
  rw [← hn] at HS
  have HN := Lib.hid hn
  clear hP hR hm hn ht
  have HEn : Hid (∀ (g c : Nat) (w : World), Ps w g P → Calls Tryd.prog 25 #[.slice (some ⟨g, 0, none⟩) n c] w fun e w' => e = .returned (.bool (ends P)) ∧ w' = w) := fun g c w h => by rw [HN.out]; exact ends_any P g c w h hne.out hsz.out hmem.out
  have HJo : Hid (∀ (g c : Nat) (w : World), Ps w g P → Calls Tryd.prog 26 #[.slice (some ⟨g, 0, none⟩) n c] w fun e w' => e = .returned (jnV (joinS P)) ∧ w' = w) := fun g c w h => by rw [HN.out]; exact join_any P g c w h hne.out hsz.out hmem.out
  cases hb : ends P with
  | false =>
    have hE2 : Hid (R = (0, false, false)) := by show _ = _; rw [hE.out, hb]; rfl
    rw [hb] at HEn
    clear hE hb HJo
    go_enter Tryd.func14, Tryd.ntmps14
    go_wp2_with (first
      | (go_at_call 24; with_reducible refine HS.out.mono ?_; rintro e w1 ⟨c, rfl, hc, hc9, hps, hb1⟩; have HB := Lib.hid hb1; have HP := Lib.hid hps; clear hb1 hps)
      | (go_at_call 25; with_reducible refine (HEn.out _ _ _ HP.out).mono ?_; rintro e w2 ⟨rfl, rfl⟩))
    go_ret3
    rw [hE2.out]
    exact ⟨rfl, HB.out⟩
  | true =>
    rw [hb] at HEn
    cases hj : joinS P with
    | none =>
      have hE2 : Hid (R = (0, true, true)) := by show _ = _; rw [hE.out, hb, hj]; rfl
      rw [hj] at HJo
      have HJ2 : Hid (∀ (g c : Nat) (w : World), Ps w g P → Calls Tryd.prog 26 #[.slice (some ⟨g, 0, none⟩) n c] w fun e w' => e = .returned (.tuple #[.int .u32 0, .bool false]) ∧ w' = w) := HJo.out
      clear hE hb hj HJo
      go_enter Tryd.func14, Tryd.ntmps14
      go_wp2_with (first
        | (go_at_call 24; with_reducible refine HS.out.mono ?_; rintro e w1 ⟨c, rfl, hc, hc9, hps, hb1⟩; have HB := Lib.hid hb1; have HP := Lib.hid hps; clear hb1 hps)
        | (go_at_call 25; with_reducible refine (HEn.out _ _ _ HP.out).mono ?_; rintro e w2 ⟨rfl, rfl⟩)
        | (go_at_call 26; with_reducible refine (HJ2.out _ _ _ HP.out).mono ?_; rintro e w3 ⟨rfl, rfl⟩))
      go_ret3
      rw [hE2.out]
      exact ⟨rfl, HB.out⟩
    | some v =>
      have hE2 : Hid (R = (v, true, false)) := by show _ = _; rw [hE.out, hb, hj]; rfl
      rw [hj] at HJo
      have HJ2 : Hid (∀ (g c : Nat) (w : World), Ps w g P → Calls Tryd.prog 26 #[.slice (some ⟨g, 0, none⟩) n c] w fun e w' => e = .returned (.tuple #[.int .u32 (v : Int), .bool true]) ∧ w' = w) := HJo.out
      clear hE hb hj HJo
      go_enter Tryd.func14, Tryd.ntmps14
      go_wp2_with (first
        | (go_at_call 24; with_reducible refine HS.out.mono ?_; rintro e w1 ⟨c, rfl, hc, hc9, hps, hb1⟩; have HB := Lib.hid hb1; have HP := Lib.hid hps; clear hb1 hps)
        | (go_at_call 25; with_reducible refine (HEn.out _ _ _ HP.out).mono ?_; rintro e w2 ⟨rfl, rfl⟩)
        | (go_at_call 26; with_reducible refine (HJ2.out _ _ _ HP.out).mono ?_; rintro e w3 ⟨rfl, rfl⟩))
      go_ret3
      rw [hE2.out]
      exact ⟨rfl, HB.out⟩

/-- Domain. -/
def dom (l : List UInt8) : Bool := !Lib.hasPrefix l [91] && !ends (prt l)
set_option maxHeartbeats 4000000 in
theorem dom_any (l : List UInt8) (w : World) (hl : l.length ≤ 100000000) (ht : Tabs w) :
    Calls Tryd.prog 16 #[.string (str l)] w fun e w' => e = .returned (.bool (dom l)) ∧ Below w.heap.size w w' := by
  obtain ⟨m, hm⟩ := ht.here.len
  have HS := Lib.hid (split_any l m w hl hm)
  have hmem : Hid (∀ p ∈ prt l, p.length ≤ 100000000) := fun p hp => Nat.le_trans (prt_len l p hp) hl
  have hne := Lib.hid (prt_ne l)
  have hsz : Hid ((prt l).length ≤ 100000001) := by have := prt_size l; show _ ≤ _; omega
  have hD : Hid (dom l = (!Lib.hasPrefix l [91] && !ends (prt l))) := rfl
  have H1 : Hid (∀ w, Calls Tryd.prog 20 #[.string (str l), .string ⟨#[91]⟩] w fun e w' => e = .returned (.bool (Lib.hasPrefix l [91])) ∧ w' = w) := fun w => Tryd.strings_HasPrefix (str l) _ w
  obtain ⟨P, hP⟩ : ∃ P, P = prt l := ⟨_, rfl⟩
  obtain ⟨R, hR⟩ : ∃ R, R = dom l := ⟨_, rfl⟩
  rw [← hP] at HS hmem hne hsz hD
  rw [← hR] at hD ⊢
  obtain ⟨n, hn⟩ : ∃ n, n = P.length := ⟨_, rfl⟩
  rw [← hn] at HS
  have HN := Lib.hid hn
  obtain ⟨x, hx⟩ : ∃ x, x = Lib.hasPrefix l [91] := ⟨_, rfl⟩
  obtain ⟨y, hy⟩ : ∃ y, y = ends P := ⟨_, rfl⟩
  rw [← hx] at H1 hD
  rw [← hy] at hD
  have HEn : Hid (∀ (g c : Nat) (w : World), Ps w g P → Calls Tryd.prog 25 #[.slice (some ⟨g, 0, none⟩) n c] w fun e w' => e = .returned (.bool y) ∧ w' = w) := fun g c w h => by rw [HN.out, hy]; exact ends_any P g c w h hne.out hsz.out hmem.out
  clear hP hR hm hn ht hx hy
  cases x with
  | true =>
    go_enter Tryd.func16, Tryd.ntmps16
    go_wp2_with (first
      | (go_at_call 20; with_reducible refine (H1.out _).mono ?_; rintro e w0 ⟨rfl, rfl⟩))
    go_ret
    rw [hD.out]
    exact ⟨rfl, Below.refl _ _⟩
  | false =>
    go_enter Tryd.func16, Tryd.ntmps16
    go_wp2_with (first
      | (go_at_call 20; with_reducible refine (H1.out _).mono ?_; rintro e w0 ⟨rfl, rfl⟩)
      | (go_at_call 24; with_reducible refine HS.out.mono ?_; rintro e w1 ⟨c, rfl, hc, hc9, hps, hb1⟩; have HB := Lib.hid hb1; have HP := Lib.hid hps; clear hb1 hps)
      | (go_at_call 25; with_reducible refine (HEn.out _ _ _ HP.out).mono ?_; rintro e w2 ⟨rfl, rfl⟩))
    go_ret
    rw [hD.out]
    exact ⟨rfl, HB.out⟩
end Go.Proofs.YtcfgcakmffkpmaaDoor
