package plans

import (
	"pawl/api"
	"pawl/disks"
)

// Changes tells the plan that makes one disk's sectors, from the first up to below the last, those of another.
// The barrier at its end keeps what a later plan writes from being done before these.
func Changes(from string, to string, first int, last int) string {
	plan := []byte{}
	for number := first; number < last; number++ {
		bytes := disks.Sector(to, number)
		if disks.Sector(from, number) == bytes {
			continue
		}
		plan = append(plan, byte(number))
		plan = append(plan, bytes...)
	}
	if len(plan) == 0 {
		return ""
	}
	plan = append(plan, api.Barrier)
	return string(plan)
}
