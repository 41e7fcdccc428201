/- A place holder, for a seat that has no numbers of layer 1. -/
import Derived.Test.YtkmjdpnbakcgcaaVal
