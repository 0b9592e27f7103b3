package ledger

import (
	"cmp"

	"bourse/amount"
	"bourse/api"
	"bourse/order"
	"bourse/overlay"
	"bourse/schema"
)

// step is a part of a call.
type step func() api.Errno

// whole: all steps, one behind the other; with an error nothing is changed.
func whole(o *overlay.Overlay, steps ...step) api.Errno {
	mark := o.Mark()
	for _, do := range steps {
		if e := do(); e != api.OK {
			o.Back(mark)
			return e
		}
	}
	return api.OK
}

// named: may accounts and a thing be?
func named(thing int, accounts ...uint64) api.Errno {
	for _, account := range accounts {
		if account == 0 {
			return api.ErrArg
		}
	}
	if thing != api.Cash && thing != api.Goods {
		return api.ErrKind
	}
	return api.OK
}

// right: may accounts, a thing and an amount be?
func right(thing int, n int64, accounts ...uint64) step {
	return func() api.Errno {
		if e := named(thing, accounts...); e != api.OK {
			return e
		}
		if n < 1 {
			return api.ErrSize
		}
		return api.OK
	}
}

// alter: a balance is another one.
func alter(o *overlay.Overlay, account uint64, thing int, how func(*api.Balance) api.Errno) step {
	return func() api.Errno {
		b, e := Balance(o, account, thing)
		if e != api.OK {
			return e
		}
		if e := how(&b); e != api.OK {
			return e
		}
		if e := order.Fits(b); e != api.OK {
			return e
		}
		keep(o, schema.Balance(account, thing), order.Money(b), b != api.Balance{})
		return api.OK
	}
}

// keep: a value that tells something; of another one there is nothing.
func keep(o *overlay.Overlay, key, value string, some bool) {
	if some {
		o.Put(key, value)
	} else {
		o.Delete(key)
	}
}

// give: a part is so much more.
func give(part *int64, n int64) api.Errno {
	more, e := amount.Add(*part, n)
	if e == api.OK {
		*part = more
	}
	return e
}

// take: a part is so much less.
func take(part *int64, n int64) api.Errno {
	if *part < n {
		return api.ErrFunds
	}
	*part -= n
	return api.OK
}

// move: so much goes from one part to the other one, whose error comes first.
func move(from, to *int64, n int64) api.Errno { return cmp.Or(give(to, n), take(from, n)) }
