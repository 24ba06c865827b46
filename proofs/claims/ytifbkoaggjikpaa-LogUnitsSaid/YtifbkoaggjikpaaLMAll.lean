/- All of the merged texts. No statement of the seat is proved here. -/
import Derived.Test.YtifbkoaggjikpaaLM35
namespace Go.Proofs.Ytifbkoaggjikpaa
end Go.Proofs.Ytifbkoaggjikpaa
