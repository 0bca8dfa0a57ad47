/- ReadyAll: its walk over the rows as they are. -/
import Derived.Test.YtoilkojegnfmfaaYe
import Derived.Test.YtoilkojegnfmfaaYo
