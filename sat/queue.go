package sat

// The worth of variables grows by ever more, so that what mattered lately counts most; ahead of an overflow all of it is made smaller.
const (
	firstGain = 1 << 20
	mostWorth = 1 << 60
	shrink    = 40
)

// queue has variables by their worth, the greatest first: a heap.
type queue struct {
	heap  []int32
	at    []int32 // by variable: where it stands in the heap; none: nowhere
	worth []int64 // by variable
	gain  int64
}

// newQueue makes a queue of so many variables, all in it.
func newQueue(n int) queue {
	q := queue{heap: make([]int32, n), at: make([]int32, n), worth: make([]int64, n), gain: firstGain}
	for i := range q.heap {
		q.heap[i], q.at[i] = int32(i), int32(i)
	}
	return q
}

// isEmpty tells whether no variable is in it.
func (q *queue) isEmpty() bool {
	return len(q.heap) == 0
}

// put puts a variable in, if it is not there.
func (q *queue) put(v int32) {
	if q.at[v] == none {
		q.heap = append(q.heap, v)
		q.up(len(q.heap)-1, v)
	}
}

// take takes out the variable of the greatest worth; there must be one.
func (q *queue) take() int32 {
	first, end := q.heap[0], len(q.heap)-1
	last := q.heap[end]
	q.heap = q.heap[:end]
	q.at[first] = none
	if end > 0 {
		q.down(0, last)
	}
	return first
}

// raise makes a variable worth more.
func (q *queue) raise(v int32) {
	q.worth[v] += q.gain
	if q.at[v] != none {
		q.up(int(q.at[v]), v)
	}
	if q.worth[v] > mostWorth {
		for i := range q.worth {
			q.worth[i] >>= shrink
		}
		q.gain >>= shrink
	}
}

// age makes all that was raised so far count for less.
func (q *queue) age() {
	q.gain += q.gain / 16
}

// up finds a variable's place, from a place that is free on.
func (q *queue) up(at int, v int32) {
	for at > 0 {
		above := (at - 1) / 2
		if q.worth[q.heap[above]] >= q.worth[v] {
			break
		}
		q.set(at, q.heap[above])
		at = above
	}
	q.set(at, v)
}

// down finds a variable's place, from a place that is free on.
func (q *queue) down(at int, v int32) {
	for 2*at+1 < len(q.heap) {
		below := 2*at + 1
		if below+1 < len(q.heap) && q.worth[q.heap[below+1]] > q.worth[q.heap[below]] {
			below++
		}
		if q.worth[v] >= q.worth[q.heap[below]] {
			break
		}
		q.set(at, q.heap[below])
		at = below
	}
	q.set(at, v)
}

// set puts a variable to a place.
func (q *queue) set(at int, v int32) {
	q.heap[at], q.at[v] = v, int32(at)
}
