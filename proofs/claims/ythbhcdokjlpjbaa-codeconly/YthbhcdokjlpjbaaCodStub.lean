import Derived.Test.YthbhcdokjlpjbaaCkI
namespace Go.Proofs.Ythbhcdokjlpjbaa
/-! ### the contracts of package codec stand in CkE (Split), CkF (Decode), CkH (Join), CkI (Encode) -/
end Go.Proofs.Ythbhcdokjlpjbaa
