package account

import "slices"

// counts tells how many News were taken at which time, the oldest first.
type counts []count

type count struct {
	time, many int
}

// add counts one more, at a time that is not ahead of those counted already.
func (c *counts) add(now int) {
	last := len(*c) - 1
	if last >= 0 && (*c)[last].time == now {
		(*c)[last].many++
		return
	}
	*c = append(*c, count{time: now, many: 1})
}

// after tells how many were taken at times above this one. The others are let go: as time goes on, none is asked for again.
func (c *counts) after(time int) int {
	*c = slices.DeleteFunc(*c, func(x count) bool { return x.time <= time })
	sum := 0
	for _, x := range *c {
		sum += x.many
	}
	return sum
}
