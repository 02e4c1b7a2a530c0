package value

// Exchange is a value with all atoms in it, however deep, become others, no two the same one.
func (v V) Exchange(becomes func(atom string) string) V {
	return exchange(v.is, becomes)
}

func exchange(thing any, becomes func(string) string) V {
	switch x := thing.(type) {
	case atom:
		return Atom(becomes(string(x)))
	case *set:
		return setOf(exchangeAll(x.elements, becomes))
	case *function:
		return x.exchange(becomes)
	}
	return V{thing}
}

func exchangeAll(list []V, becomes func(string) string) []V {
	others := make([]V, 0, len(list))
	for _, v := range list {
		others = append(others, v.Exchange(becomes))
	}
	return others
}

// exchange sorts the domain anew, as other atoms may stand in another order.
func (f *function) exchange(becomes func(string) string) V {
	domain, gives := exchangeAll(f.domain.elements, becomes), exchangeAll(f.gives, becomes)
	pairs := make([]pair, 0, len(domain))
	for i := range domain {
		pairs = append(pairs, pair{domain[i], gives[i]})
	}
	return functionOf(pairs)
}
