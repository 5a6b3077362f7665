import Derived.Test.YtajlgpamcpgalaaCkI
namespace Go.Proofs.Ytajlgpamcpgalaa
/-! ### the contracts of package codec stand in CkE (Split), CkF (Decode), CkH (Join), CkI (Encode) -/
end Go.Proofs.Ytajlgpamcpgalaa
