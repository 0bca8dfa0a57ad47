/- ReadyPlays: its walk over the rows as they are. -/
import Derived.Test.YtoilkojegnfmfaaYj
import Derived.Test.YtoilkojegnfmfaaYo
