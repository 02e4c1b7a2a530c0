package value

import "slices"

// operator is a row of the table of operators.
type operator struct {
	name  string
	takes int // how many values; anyNumber, if that is left open
	makes func(args []V) V
}

const anyNumber = -1

// Apply does what an operator does; nil, if there is none of this name for so many values.
func Apply(op string, args ...V) V {
	return Operator(op, len(args))(args)
}

// Operator is what Apply does with an operator and a number of values, for whoever does it often. The list that it is handed is not kept.
func Operator(op string, takes int) func(args []V) V {
	o, found := find(op)
	if !found || o.takes != anyNumber && o.takes != takes {
		return func([]V) V { return V{} }
	}
	return o.makes
}

// find looks an operator up, part by part of the table, so that no more of it is made than is needed.
func find(op string) (operator, bool) {
	for _, part := range []func() []operator{logic, order, numbers, sets, families, functions, sequences} {
		for _, o := range part() {
			if o.name == op {
				return o, true
			}
		}
	}
	return operator{}, false
}

func logic() []operator {
	return []operator{
		{"not", 1, func(l []V) V { return V{!l[0].So()} }},
		{"and", 2, func(l []V) V { return V{l[0].So() && l[1].So()} }},
		{"or", 2, func(l []V) V { return V{l[0].So() || l[1].So()} }},
		{"implies", 2, func(l []V) V { return V{!l[0].So() || l[1].So()} }},
		{"iff", 2, func(l []V) V { return V{l[0].So() == l[1].So()} }},
		{"=", 2, func(l []V) V { return V{same(l[0], l[1])} }},
		{"/=", 2, func(l []V) V { return V{!same(l[0], l[1])} }},
	}
}

func order() []operator {
	ints := func(f func(a, b int64) bool) func([]V) V {
		return ofInts(V{false}, func(a, b int64) V { return V{f(a, b)} })
	}
	return []operator{
		{"<", 2, ints(func(a, b int64) bool { return a < b })},
		{"<=", 2, ints(func(a, b int64) bool { return a <= b })},
		{">", 2, ints(func(a, b int64) bool { return a > b })},
		{">=", 2, ints(func(a, b int64) bool { return a >= b })},
	}
}

func numbers() []operator {
	ints := func(f func(a, b int64) V) func([]V) V { return ofInts(V{}, f) }
	return []operator{
		{"+", 2, ints(func(a, b int64) V { return V{a + b} })},
		{"-", 2, ints(func(a, b int64) V { return V{a - b} })},
		{"*", 2, ints(func(a, b int64) V { return V{a * b} })},
		{"/", 2, ints(quotient)},
		{"%", 2, ints(left)},
		{"..", 2, ints(span)},
		{"neg", 1, negated},
	}
}

// ofInts makes of a function of two ints one of two values, which tells otherwise where they are no ints.
func ofInts(otherwise V, f func(a, b int64) V) func([]V) V {
	return func(l []V) V {
		a, aInt := l[0].is.(int64)
		b, bInt := l[1].is.(int64)
		if !aInt || !bInt {
			return otherwise
		}
		return f(a, b)
	}
}

func quotient(a, b int64) V {
	if b == 0 {
		return V{}
	}
	return V{a / b}
}

// left is what is left when a is divided by b.
func left(a, b int64) V {
	if b == 0 {
		return V{}
	}
	return V{a % b}
}

func negated(l []V) V {
	if n, ok := l[0].is.(int64); ok {
		return V{-n}
	}
	return V{}
}

func functions() []operator {
	return []operator{
		{"fun", anyNumber, paired},
		{"at", 2, ofFunction(at)},
		{"put", 3, ofFunction(put)},
		{"domain", 1, ofFunction(func(f *function, _ []V) V { return V{f.domain} })},
		{"values", 1, ofFunction(func(f *function, _ []V) V { return setOf(f.gives) })},
	}
}

// ofFunction makes of a function of a first value, which is a function, and of the others, one of all of them.
func ofFunction(makes func(f *function, others []V) V) func([]V) V {
	return func(l []V) V {
		f, ok := l[0].is.(*function)
		if !ok {
			return V{}
		}
		return makes(f, l[1:])
	}
}

// paired makes the function that gives the first value the second one, the third the fourth, and so on.
func paired(l []V) V {
	if len(l)%2 != 0 {
		return V{}
	}
	pairs := make([]pair, len(l)/2)
	for i := range pairs {
		pairs[i] = pair{l[2*i], l[2*i+1]}
	}
	return functionOf(pairs)
}

func at(f *function, others []V) V {
	if i, found := f.domain.place(others[0]); found {
		return f.gives[i]
	}
	return V{}
}

func put(f *function, others []V) V {
	i, found := f.domain.place(others[0])
	if !found {
		return V{f}
	}
	gives := slices.Clone(f.gives)
	gives[i] = others[1]
	return newFunction(f.domain, gives)
}

func sequences() []operator {
	return []operator{
		{"seq", anyNumber, func(l []V) V { return newSequence(slices.Clone(l)) }},
		{"len", 1, ofSequence(func(items, _ []V) V { return V{int64(len(items))} })},
		{"head", 1, ofSequence(head)},
		{"tail", 1, ofSequence(tail)},
		{"append", 2, ofSequence(func(items, others []V) V { return newSequence(slices.Concat(items, others)) })},
		{"++", 2, ofSequence(joined)},
	}
}

// ofSequence is like ofFunction, of a sequence and its elements.
func ofSequence(makes func(items, others []V) V) func([]V) V {
	return ofFunction(func(f *function, others []V) V {
		if !f.sequence {
			return V{}
		}
		return makes(f.gives, others)
	})
}

func head(items, _ []V) V {
	if len(items) == 0 {
		return V{}
	}
	return items[0]
}

func tail(items, _ []V) V {
	if len(items) == 0 {
		return V{}
	}
	return newSequence(slices.Clone(items[1:]))
}

func joined(items, others []V) V {
	g, ok := others[0].is.(*function)
	if !ok || !g.sequence {
		return V{}
	}
	return newSequence(slices.Concat(items, g.gives))
}
