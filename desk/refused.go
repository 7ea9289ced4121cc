package desk

import (
	"strconv"

	"facet/api"
)

// refused is the error of an order that is not executed.
type refused struct{ reason api.Errno }

func (r refused) Error() string {
	return "refused for the reason " + strconv.Itoa(int(r.reason))
}

// refuse is what a state answers an order that it refuses.
func refuse(reason api.Errno) (state, error) {
	return state{}, refused{reason}
}
