/-
  What transeptlaw08.WeburlPorts answers: true; nothing that was there turns. Condition: the library's tables.
-/
import Derived.Test.YtcepigekibidfaaGreatDoorGr
import Derived.Test.YtcepigekibidfaaGreatDoorGn
import Derived.Test.YtcepigekibidfaaGreatDoorGj
import Derived.Test.YtcepigekibidfaaGreatDoorWpt
namespace Go.Proofs.YtcepigekibidfaaGreatDoor
open Go.RowKit

/-- What the document's Default tells. -/
def dfl (s : List UInt8) : Int := match dp s with
  | none => -1
  | some p => if p = -1 then 0 else p
set_option maxHeartbeats 2000000 in
theorem default_any (s : List UInt8) (w : World) : Calls Tryz.prog 28 #[.string (str s)] w fun e w' => e = .returned (.int .i64 (dfl s)) ∧ w' = w := by
  by_cases h0 : s = [104, 116, 116, 112]
  · have hd : dfl s = 80 := by rw [h0]; rfl
    rw [hd]
    have e0 : ((str s).toList == [104, 116, 116, 112]) = true := by rw [toList_str, h0]; rfl
    clear h0 hd
    go_enter Tryz.func28, Tryz.ntmps28
    go_wp2_with fail
    go_ret
    exact ⟨rfl, rfl⟩
  by_cases h1 : s = [119, 115]
  · have hd : dfl s = 80 := by rw [h1]; rfl
    rw [hd]
    have e0 : ((str s).toList == [104, 116, 116, 112]) = false := by rw [toList_str, h1]; rfl
    have e1 : ((str s).toList == [119, 115]) = true := by rw [toList_str, h1]; rfl
    clear h0 h1 hd
    go_enter Tryz.func28, Tryz.ntmps28
    go_wp2_with fail
    go_ret
    exact ⟨rfl, rfl⟩
  by_cases h2 : s = [104, 116, 116, 112, 115]
  · have hd : dfl s = 443 := by rw [h2]; rfl
    rw [hd]
    have e0 : ((str s).toList == [104, 116, 116, 112]) = false := by rw [toList_str, h2]; rfl
    have e1 : ((str s).toList == [119, 115]) = false := by rw [toList_str, h2]; rfl
    have e2 : ((str s).toList == [104, 116, 116, 112, 115]) = true := by rw [toList_str, h2]; rfl
    clear h0 h1 h2 hd
    go_enter Tryz.func28, Tryz.ntmps28
    go_wp2_with fail
    go_ret
    exact ⟨rfl, rfl⟩
  by_cases h3 : s = [119, 115, 115]
  · have hd : dfl s = 443 := by rw [h3]; rfl
    rw [hd]
    have e0 : ((str s).toList == [104, 116, 116, 112]) = false := by rw [toList_str, h3]; rfl
    have e1 : ((str s).toList == [119, 115]) = false := by rw [toList_str, h3]; rfl
    have e2 : ((str s).toList == [104, 116, 116, 112, 115]) = false := by rw [toList_str, h3]; rfl
    have e3 : ((str s).toList == [119, 115, 115]) = true := by rw [toList_str, h3]; rfl
    clear h0 h1 h2 h3 hd
    go_enter Tryz.func28, Tryz.ntmps28
    go_wp2_with fail
    go_ret
    exact ⟨rfl, rfl⟩
  by_cases h4 : s = [100, 97, 116, 97]
  · have hd : dfl s = 0 := by rw [h4]; rfl
    rw [hd]
    have e0 : ((str s).toList == [104, 116, 116, 112]) = false := by rw [toList_str, h4]; rfl
    have e1 : ((str s).toList == [119, 115]) = false := by rw [toList_str, h4]; rfl
    have e2 : ((str s).toList == [104, 116, 116, 112, 115]) = false := by rw [toList_str, h4]; rfl
    have e3 : ((str s).toList == [119, 115, 115]) = false := by rw [toList_str, h4]; rfl
    have e4 : ((str s).toList == [100, 97, 116, 97]) = true := by rw [toList_str, h4]; rfl
    clear h0 h1 h2 h3 h4 hd
    go_enter Tryz.func28, Tryz.ntmps28
    go_wp2_with fail
    go_ret
    exact ⟨rfl, rfl⟩
  by_cases h5 : s = [98, 108, 111, 98]
  · have hd : dfl s = 0 := by rw [h5]; rfl
    rw [hd]
    have e0 : ((str s).toList == [104, 116, 116, 112]) = false := by rw [toList_str, h5]; rfl
    have e1 : ((str s).toList == [119, 115]) = false := by rw [toList_str, h5]; rfl
    have e2 : ((str s).toList == [104, 116, 116, 112, 115]) = false := by rw [toList_str, h5]; rfl
    have e3 : ((str s).toList == [119, 115, 115]) = false := by rw [toList_str, h5]; rfl
    have e4 : ((str s).toList == [100, 97, 116, 97]) = false := by rw [toList_str, h5]; rfl
    have e5 : ((str s).toList == [98, 108, 111, 98]) = true := by rw [toList_str, h5]; rfl
    clear h0 h1 h2 h3 h4 h5 hd
    go_enter Tryz.func28, Tryz.ntmps28
    go_wp2_with fail
    go_ret
    exact ⟨rfl, rfl⟩
  by_cases h6 : s = [97, 98, 111, 117, 116]
  · have hd : dfl s = 0 := by rw [h6]; rfl
    rw [hd]
    have e0 : ((str s).toList == [104, 116, 116, 112]) = false := by rw [toList_str, h6]; rfl
    have e1 : ((str s).toList == [119, 115]) = false := by rw [toList_str, h6]; rfl
    have e2 : ((str s).toList == [104, 116, 116, 112, 115]) = false := by rw [toList_str, h6]; rfl
    have e3 : ((str s).toList == [119, 115, 115]) = false := by rw [toList_str, h6]; rfl
    have e4 : ((str s).toList == [100, 97, 116, 97]) = false := by rw [toList_str, h6]; rfl
    have e5 : ((str s).toList == [98, 108, 111, 98]) = false := by rw [toList_str, h6]; rfl
    have e6 : ((str s).toList == [97, 98, 111, 117, 116]) = true := by rw [toList_str, h6]; rfl
    clear h0 h1 h2 h3 h4 h5 h6 hd
    go_enter Tryz.func28, Tryz.ntmps28
    go_wp2_with fail
    go_ret
    exact ⟨rfl, rfl⟩
  have hd : dfl s = -1 := by
    unfold dfl
    cases hp : dp s with
    | none => rfl
    | some p =>
      rcases dp_cases s p hp with ⟨h, _⟩ | ⟨h, _⟩ | ⟨h, _⟩ | ⟨h, _⟩ | ⟨h, _⟩ | ⟨h, _⟩ | ⟨h, _⟩
      · exact absurd h h0
      · exact absurd h h2
      · exact absurd h h1
      · exact absurd h h3
      · exact absurd h h4
      · exact absurd h h5
      · exact absurd h h6
  rw [hd]
  have e0 : ((str s).toList == [104, 116, 116, 112]) = false := by rw [toList_str]; simpa using h0
  have e1 : ((str s).toList == [119, 115]) = false := by rw [toList_str]; simpa using h1
  have e2 : ((str s).toList == [104, 116, 116, 112, 115]) = false := by rw [toList_str]; simpa using h2
  have e3 : ((str s).toList == [119, 115, 115]) = false := by rw [toList_str]; simpa using h3
  have e4 : ((str s).toList == [100, 97, 116, 97]) = false := by rw [toList_str]; simpa using h4
  have e5 : ((str s).toList == [98, 108, 111, 98]) = false := by rw [toList_str]; simpa using h5
  have e6 : ((str s).toList == [97, 98, 111, 117, 116]) = false := by rw [toList_str]; simpa using h6
  clear h0 h1 h2 h3 h4 h5 h6 hd
  go_enter Tryz.func28, Tryz.ntmps28
  go_wp2_with fail
  go_ret
  exact ⟨rfl, rfl⟩
end Go.Proofs.YtcepigekibidfaaGreatDoor
