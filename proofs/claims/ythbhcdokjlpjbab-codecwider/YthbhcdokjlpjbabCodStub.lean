import Derived.Test.YthbhcdokjlpjbabCkI
namespace Go.Proofs.Ythbhcdokjlpjbab
/-! ### the contracts of package codec stand in CkE (Split), CkF (Decode), CkH (Join), CkI (Encode) -/
end Go.Proofs.Ythbhcdokjlpjbab
