/- No table is wanted at this seat. -/
import Derived.Test.YtmfaeonlmfejdaaBase
namespace Go.Proofs.Ytmfaeonlmfejdaa
end Go.Proofs.Ytmfaeonlmfejdaa
