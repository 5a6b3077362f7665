import Derived.Test.YtajlgpamcpgalaaRkF
namespace Go.Proofs.Ytajlgpamcpgalaa
/-! ### the contracts of package round stand in RkD (Cut), RkE (Of, Round), RkF (Make) -/
end Go.Proofs.Ytajlgpamcpgalaa
