/-
  What transeptref07.Parse answers: what the program's own does; nothing that was there turns. Condition: texts of at most 10000 bytes.
-/
import Derived.Test.YtcepigekibidfaaGreatDoorRhp
namespace Go.Proofs.YtcepigekibidfaaGreatDoor
open Go.RowKit

theorem rparse_any (l : List UInt8) (w : World) (hl : l.length ≤ 10000) : Calls Tryz.prog 30 #[.string (str l)] w fun e w' => e = .returned (prsV (prs l)) ∧ Below w.heap.size w w' := by
  have hsz := str_size l
  have hD : ∀ W, Calls Tryz.prog 50 #[.string (str l)] W fun e w' => e = .returned (.string (str (dec l))) ∧ Below W.heap.size W w' := fun W => refDecode_any l W (by omega)
  have hdl := dec_len l.length l (Nat.le_refl _)
  match l, hl, hsz, hD, hdl with
  | [], _, hsz, hD, hdl => exact rp_d [] (dec []) 0 _ w rfl (by omega) hsz (by decide) (.inl (by rw [toList_str]; rfl)) hD
  | a :: m, hl, hsz, hD, hdl =>
    have he : (str (a :: m)).toList.isEmpty = false := by rw [toList_str]; rfl
    have hg0 : ∀ h, ((str (a :: m))[0]'h).toNat = a.toNat := fun h => str_at _ 0 (by simp) h
    by_cases ha : a = 91
    · subst ha
      have hp : prs (91 :: m) = prb (91 :: m) := by
        unfold prs
        rw [if_pos (by rfl)]
      rw [hp]
      rcases List.eq_nil_or_concat m with rfl | ⟨t, x, rfl⟩
      · exact rp_a [91] 1 0 91 he hg0 (by decide) (by decide) (fun h => str_at _ 0 (by decide) h) (by decide) w hsz (by decide)
      · rw [List.concat_eq_append] at hp hl hsz hD hdl he hg0 ⊢
        have hlen : (91 :: (t ++ [x])).length = t.length + 2 := by simp
        rw [hlen] at hsz hl
        have hg1 : ∀ h, ((str (91 :: (t ++ [x])))[t.length + 1]'h).toNat = x.toNat := fun h => by
          rw [str_at _ _ (by rw [hlen]; omega) h]
          simp
        have hpr : prb (91 :: (t ++ [x])) = if x = 93 then (match ip6 t with | some a => (brk a, false) | none => ([], true)) else ([], true) := by
          unfold prb
          rw [List.drop_one, List.tail_cons, suf_one]
          by_cases hx : x = 93
          · subst hx
            rw [if_pos (by rfl), if_pos rfl]
            have e : Lib.trimSuffix (t ++ [93]) [93] = t := by
              unfold Lib.trimSuffix
              rw [suf_one, if_pos (by rfl)]
              simp
            rw [e]
            cases ip6 t <;> rfl
          · rw [if_neg (by rw [decide_eq_false hx]; decide), if_neg hx]
        by_cases hx : x = 93
        · subst hx
          rw [hpr, if_pos rfl]
          have ht : (str (91 :: (t ++ [93]))).extract 1 (t.length + 1) = str t := by
            rw [str_sub]
            simp
          have HI := fun W => rip6_any t W (by omega)
          cases ho : ip6 t with
          | none =>
            have HI2 : Hid (∀ W, Calls Tryz.prog 48 #[.string (str t)] W fun e w' => e = .returned (.tuple #[.agg (vhs zero8).toArray, .int .i64 7]) ∧ Below W.heap.size W w') := fun W => by
              have := HI W
              rw [ho] at this
              exact this
            by_cases ht0 : t.length = 0
            · have : t = [] := List.eq_nil_of_length_eq_zero ht0
              subst this
              exact rp_b _ 2 1 93 he hg0 (by decide) (by decide) hg1 (by decide) (by decide) [] ht HI2 w hsz (by decide)
            · exact rp_b _ (t.length + 2) (t.length + 1) 93 he hg0 (by omega) (by omega) hg1 (by decide) (by omega) t ht HI2 w hsz (by omega)
          | some A =>
            obtain ⟨hA, hA2⟩ := ip6_ok t A ho
            have HI2 : Hid (∀ W, Calls Tryz.prog 48 #[.string (str t)] W fun e w' => e = .returned (.tuple #[.agg (vhs A).toArray, .int .i64 0]) ∧ Below W.heap.size W w') := fun W => by
              have := HI W
              rw [ho] at this
              exact this
            have hbl : (brk A).length ≤ 100000 := prs_len (91 :: (t ++ [93])) (brk A) false (by rw [hp, hpr, if_pos rfl, ho]) (by rw [hlen]; omega)
            have hbl2 : (brk A).length = (text6 A).length + 2 := by unfold brk; rw [List.length_append, List.length_append]; simp; omega
            exact rp_c _ (t.length + 2) (t.length + 1) 93 he hg0 (by omega) (by omega) hg1 (by decide) (by omega) t ht A hA HI2 (text6 A) ([91] ++ text6 A) (brk A) (fun W => text6_any A hA hA2 W) (str_add [91] _) (str_add _ [93]) (by rw [str_size]; omega) (by rw [str_size, List.length_append]; simp; omega) w hsz (by omega)
        · rw [hpr, if_neg hx]
          refine rp_a _ (t.length + 2) (t.length + 1) x.toNat he hg0 (by omega) (by omega) hg1 ?_ w hsz (by omega)
          have : x.toNat ≠ 93 := fun e => hx (UInt8.toNat.inj e)
          simp
          omega
    · have hp : prs (a :: m) = nam (dec (a :: m)) := by
        unfold prs
        rw [if_neg (by
          intro h
          have : (91 : UInt8) = a := by simpa [Lib.hasPrefix, List.isPrefixOf] using h
          exact ha this.symm)]
      rw [hp]
      refine rp_d (a :: m) (dec (a :: m)) _ _ w rfl (by omega) hsz (by omega) (.inr ⟨he, a.toNat, hg0, ?_, by simp⟩) hD
      have : a.toNat ≠ 91 := fun e => ha (UInt8.toNat.inj e)
      simp
      omega
end Go.Proofs.YtcepigekibidfaaGreatDoor
