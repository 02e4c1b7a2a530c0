package sat

import (
	"math/rand"
	"testing"

	"sextant/api"
)

// chain draws parts that each cannot be, but for a variable of its own; the last one cannot be if the variables of those ahead are true. So it is found bit by bit what must be.
func chain(r *rand.Rand) (int, [][]int) {
	parts, each := 2+r.Intn(6), 8+r.Intn(12)
	own := func(part int) int { return parts*each + part + 1 }
	var clauses [][]int
	for part := range parts {
		for range 6 * each {
			c := r.Perm(each)[:3]
			for i, v := range c {
				c[i] = (part*each + v + 1) * (1 - 2*r.Intn(2))
			}
			if part < parts-1 {
				c = append(c, own(part))
			}
			for part > 0 && r.Intn(3) > 0 {
				c = append(c, -own(r.Intn(part)))
			}
			clauses = append(clauses, c)
		}
	}
	r.Shuffle(len(clauses), func(i, j int) { clauses[i], clauses[j] = clauses[j], clauses[i] })
	return own(parts), clauses
}

// What was learnt goes again and again, but never what something is true by: else what comes behind it would not be shown any more. With as much room as Solve leaves, that is seen only where a search takes long.
func TestC3LittleRoom(t *testing.T) {
	r := rand.New(rand.NewSource(5))
	some, gone := 0, 0
	for range 1000 {
		n, clauses := chain(r)
		f := name(n, clauses)
		s := newSolver(f, f.store(clauses))
		s.room, s.more = 1+r.Intn(20), 1
		if s.search(nil) {
			some++
			continue
		}
		proof := append(s.proof, api.Line{})
		if !Checked(n, clauses, proof) {
			t.Fatalf("%v: %v shows nothing", clauses, proof)
		}
		for _, line := range proof {
			if line.Gone {
				gone++
			}
		}
	}
	if some < 100 || some > 900 || gone < 10000 {
		t.Errorf("%d can be, %d clauses went: this test looks at little", some, gone)
	}
}

// The numbers grow without an end, so that each search comes to one, however much must be learnt at one go.
func TestC3Pause(t *testing.T) {
	for i, want := range []int{1, 1, 2, 1, 1, 2, 4, 1, 1, 2, 1, 1, 2, 4, 8, 1} {
		if got := pause(i + 1); got != want {
			t.Errorf("pause(%d): %d, want %d", i+1, got, want)
		}
	}
}

// The variable of the greatest worth comes out first, however long it goes on.
func TestC3Queue(t *testing.T) {
	r := rand.New(rand.NewSource(6))
	q := newQueue(20)
	for round := range 2000 {
		v := int32(r.Intn(20))
		q.raise(v)
		q.age()
		if r.Intn(2) == 0 {
			q.put(v)
		}
		if q.isEmpty() {
			continue
		}
		best := int64(-1)
		for _, w := range q.heap {
			best = max(best, q.worth[w])
		}
		if got := q.take(); q.worth[got] != best || q.worth[got] < 0 || q.gain <= 0 || q.at[got] != none {
			t.Fatalf("round %d: worth %d, the best is %d", round, q.worth[got], best)
		}
		if r.Intn(3) > 0 {
			q.put(int32(r.Intn(20)))
		}
	}
}
