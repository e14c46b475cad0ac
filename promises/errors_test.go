package promises

import (
	"testing"

	"pawl/api"
)

func TestErrorsAreTheDocumentsNumbers(t *testing.T) {
	for want, e := range []api.Errno{api.OK, api.ErrKey, api.ErrLong, api.ErrNumber, api.ErrFrame, api.ErrTag, api.ErrDisk, api.ErrPlan, api.ErrSmall, api.ErrUsed, api.ErrBlank, api.ErrTorn, api.ErrStore, api.ErrMute, api.ErrSpent, api.ErrStep, api.ErrGone, api.ErrSkip} {
		if int(e) != want {
			t.Errorf("error %d has the number %d", want, e)
		}
	}
}
