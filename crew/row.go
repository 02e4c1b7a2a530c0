package crew

// row is things in the order in which they came.
type row[T any] []T

// take takes out what stands at a place. Those ahead of it move, not those behind it: what is taken out mostly stands first.
func (r *row[T]) take(place int) T {
	taken := (*r)[place]
	copy((*r)[1:], (*r)[:place])
	*r = (*r)[1:]
	return taken
}
