package crew

// report is what a worker told in a round; the zero one, if it was not asked in it.
type report struct {
	asked bool
	quiet bool
	tick  int
}

// chief asks in rounds whether all is done. One round is not enough: while a worker is asked, one that was quiet ahead of it may be so no more. Where all tell twice that they are quiet, with the same tick, none has become unquiet from the first time to the second; so between the rounds all were quiet at once.
type chief struct {
	now  []report // by workers
	last []report // of the round just ahead
	left int      // how many are not asked yet in this round
	done bool
}

func newChief(n int) chief {
	return chief{now: make([]report, n), last: make([]report, n), left: n}
}

// hear takes in what a worker tells, the first time that it does in a round.
func (c *chief) hear(worker int, told report) {
	if c.now[worker].asked {
		return
	}
	c.now[worker] = told
	c.left--
	if c.left == 0 {
		c.endRound()
	}
}

func (c *chief) endRound() {
	c.done = c.done || c.areQuietAgain()
	c.now, c.last = c.last, c.now
	clear(c.now)
	c.left = len(c.now)
}

// areQuietAgain tells whether all were quiet in this round, and in the one just ahead with the same tick.
func (c *chief) areQuietAgain() bool {
	for worker, told := range c.now {
		if !told.quiet || told != c.last[worker] {
			return false
		}
	}
	return true
}
