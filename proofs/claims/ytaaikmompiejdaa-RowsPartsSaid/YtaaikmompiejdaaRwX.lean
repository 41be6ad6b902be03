/- What package rows owes (layer 3), shown of the landed code. -/
import Derived.Test.YtaaikmompiejdaaRwHalfC
import Derived.Test.YtaaikmompiejdaaRwJoinC
import Derived.Test.YtaaikmompiejdaaRwTakeC
namespace Go.Proofs.Ytaaikmompiejdaa
open Go.RowKit

theorem rwc : RwC where
  right v rs w hv _ := rowsRight_any v rs w hv
  find v rs key w hv _ _ := find_any v rs key w hv
  same v u rs ss w hv hu _ _ := same_any v u rs ss w hv hu
  copy v rs w hv hl := (copy_own v rs w hv hl).mono fun _ _ ⟨v', h1, h2, h3⟩ => ⟨v', h1, h2.fresh hv.small, h3⟩
  put v rs k x w hv hl hk hx hf := put_any v rs k x w hv hl hk hx hf
  putNo v _ k x w _ _ hk hx hf := putNo_any v k x w hk hx hf
  drop v rs key w hv hl _ := drop_any v rs key w hv hl
  cut v rs key w hv hl _ := cut_any v rs key w hv hl
  halve v rs w hv hl hh := by
    have h2 : 2 ≤ rs.length := by unfold halfB at hh; simp at hh; exact hh.1
    refine (halve_many v rs w hv h2 hl).mono ?_
    rintro ev w' (⟨-, h⟩ | ⟨h, -⟩)
    · exact h
    · rw [hh] at h; cases h
  halveNo v rs w hv hl hh := by
    by_cases h2 : rs.length < 2
    · rw [if_pos h2]
      exact halve_few v rs w hv h2
    · rw [if_neg h2]
      refine (halve_many v rs w hv (by omega) hl).mono ?_
      rintro ev w' (⟨h, -⟩ | ⟨-, h⟩)
      · rw [hh] at h; cases h
      · exact h
  join v u rs ss w hv hu hl hl2 hc := by
    refine (join_all v u rs ss w hv hu hl hl2).mono ?_
    rintro ev w' (⟨-, h⟩ | ⟨h, -⟩)
    · exact h
    · rw [hc] at h; cases h
  joinNo v u rs ss w hv hu hl hl2 hc := by
    refine (join_all v u rs ss w hv hu hl hl2).mono ?_
    rintro ev w' (⟨h, -⟩ | ⟨-, h⟩)
    · rw [hc] at h; cases h
    · exact h
  take v rs low high unb rev limit w hv hl _ _ _ := take_any v rs low high unb rev limit w hv hl
end Go.Proofs.Ytaaikmompiejdaa
