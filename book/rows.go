package book

import (
	"iter"
	"slices"

	"bourse/api"
	"bourse/order"
	"bourse/overlay"
	"bourse/schema"
)

// row: the orders that pairs within bounds tell, up to the first error.
func row(r overlay.Reader, from, to string, tell func(overlay.Reader, api.Pair) (api.Order, api.Errno)) iter.Seq2[api.Order, api.Errno] {
	return func(yield func(api.Order, api.Errno) bool) {
		for p := range r.Range(from, to) {
			x, e := tell(r, p)
			if !yield(x, e) || e != api.OK {
				return
			}
		}
	}
}

// parse: the order that a pair is.
func parse(_ overlay.Reader, p api.Pair) (api.Order, api.Errno) {
	k, e := schema.Parse(p.Key)
	if e != api.OK {
		return api.Order{}, e
	}
	return order.Parse(k.ID, p.Value)
}

// standing: the order whose place or expiry a pair is.
func standing(r overlay.Reader, p api.Pair) (api.Order, api.Errno) {
	k, e := schema.Parse(p.Key)
	if e != api.OK {
		return api.Order{}, e
	}
	x, _, e := Get(r, k.ID)
	if e != api.OK {
		return api.Order{}, e
	}
	// One that isn't there stands nowhere.
	if !slices.Contains(stands(x), p.Key) {
		return api.Order{}, api.ErrBroken
	}
	return x, api.OK
}

// stands: the keys under which an order stands beside its own, as it rests.
func stands(x api.Order) []string {
	if x.State != api.Resting {
		return nil
	}
	l := []string{schema.Place(x)}
	if x.Expiry != 0 {
		l = append(l, schema.Expiry(x.Expiry, x.ID))
	}
	return l
}
