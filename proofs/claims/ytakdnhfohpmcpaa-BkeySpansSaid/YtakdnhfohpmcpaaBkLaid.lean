/- What the frames of layer 2's laws share: the program's own settings, its layout. -/
import Derived.Test.YtakdnhfohpmcpaaRows
import Derived.Test.YtakdnhfohpmcpaaBkCodeX
import Derived.Test.YtakdnhfohpmcpaaKit
namespace Go.Proofs.Ytakdnhfohpmcpaa
theorem Try.own : ownKnob Try.prog.godebug = none := by kernel_rfl
theorem Try.laidOut : laidOutB Try.prog = true := by kernel_rfl
end Go.Proofs.Ytakdnhfohpmcpaa
