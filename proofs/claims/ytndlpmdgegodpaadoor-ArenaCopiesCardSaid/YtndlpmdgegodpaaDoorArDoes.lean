/- A step done in both arenas: does, by a contract, whatever its verb. -/
import Derived.Test.YtndlpmdgegodpaaDoorArDoes0
import Derived.Test.YtndlpmdgegodpaaDoorArDoes1
import Derived.Test.YtndlpmdgegodpaaDoorArDoes2
import Derived.Test.YtndlpmdgegodpaaDoorArDoes3
namespace Go.Proofs.YtndlpmdgegodpaaDoor
open Go.RowKit

theorem does_arena (C : ArC) (W w : World) (a : Addr) (S : Nat → Prop) (n l : Nat) (us : List PuD) (v : Value) (d : DoD) (tv : Value) (told : List Rf) (hD : Du C W w a S n l (us.map PuD.pt) us v) (hK : Kin W d.rv d.en d.rows d.ents) (hnn : 0 ≤ d.nn ∧ d.nn < 256) (ht : SV lRef w tv told) (htl : told.length ≤ 60) (hul : us.length ≤ 900) (hn4 : n ≤ 4096) (hl4 : l ≤ 1099511627776) (hg : Ea.Glob W) :
    Calls Tryd.prog 9 #[.pointer (some a), refA n l v, doVal d.verb d.sc d.rv d.en d.x d.y d.last d.nn, tv] w (DoesP C W w a S n l us v) := by
  by_cases h0 : d.verb = 0
  · exact does0 C W w a S n l us v d tv told hD hK hnn ht htl hul hn4 hl4 hg h0
  · by_cases h1 : d.verb = 1
    · exact does1 C W w a S n l us v d tv told hD hK hnn ht htl hul hn4 hl4 hg h1
    · by_cases h2 : d.verb = 2
      · exact does2 C W w a S n l us v d tv told hD hK hnn ht htl hul hn4 hl4 hg h2
      · exact does3 C W w a S n l us v d tv told hD hK hnn ht htl hul hn4 hl4 hg ⟨h0, h1, h2⟩
end Go.Proofs.YtndlpmdgegodpaaDoor
