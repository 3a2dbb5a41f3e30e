/- Which text holds the contracts of deeds: here the trial's (DtA). For landed code: change this import. -/
import Derived.Test.YthoofboegchodaaKd1
