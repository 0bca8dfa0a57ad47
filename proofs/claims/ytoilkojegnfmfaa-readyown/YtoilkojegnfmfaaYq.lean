/- ReadyOwn: its walk over the rows as they are. -/
import Derived.Test.YtoilkojegnfmfaaYh
import Derived.Test.YtoilkojegnfmfaaYo
