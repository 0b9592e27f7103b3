package engine

import (
	"bourse/api"
	"bourse/book"
	"bourse/ledger"
	"bourse/match"
	"bourse/order"
)

// step is a part of an operation; what it comes to stands in the reply.
type step func(*Reply) api.Errno

// whole: all steps, one behind the other; of an error nothing is changed, and the reply has it alone.
func (g Engine) whole(steps ...step) Reply {
	mark := g.o.Mark()
	var r Reply
	for _, do := range steps {
		if e := do(&r); e != api.OK {
			g.o.Back(mark)
			return Reply{Err: e}
		}
	}
	return r
}

// find: the order of a number.
func (g Engine) find(id uint64) step {
	return func(r *Reply) api.Errno {
		x, there, e := book.Get(g.o, id)
		if e != api.OK {
			return e
		}
		if !there {
			return api.ErrNone
		}
		r.Order = x
		return api.OK
	}
}

// restsFor: it must be an account's, and rest.
func restsFor(account uint64) step {
	return func(r *Reply) api.Errno {
		if r.Order.Account != account {
			return api.ErrNone
		}
		if r.Order.State != api.Resting {
			return api.ErrClosed
		}
		return api.OK
	}
}

// replace: the order stands for what it was.
func (g Engine) replace(r *Reply, was api.Order) api.Errno {
	if r.Order.Price != was.Price || r.Order.Left > was.Left {
		if e := g.rank(r); e != api.OK {
			return e
		}
	}
	if e := g.release(was); e != api.OK {
		return e
	}
	if e := g.hold(r.Order); e != api.OK {
		return e
	}
	if r.Order.Price == was.Price {
		return api.OK
	}
	return g.apart(r.Order)
}

// rank: the order has the next one.
func (g Engine) rank(r *Reply) (e api.Errno) {
	r.Order.Rank, e = ledger.Next(g.o, ranks)
	return e
}

// put: the order is so.
func (g Engine) put(r *Reply) api.Errno { return book.Put(g.o, r.Order) }

// expire: all orders that are due don't rest any more.
func (g Engine) expire(r *Reply) api.Errno {
	// What a row goes through isn't changed meanwhile; an error is the last that it tells.
	var l []api.Order
	fault := api.OK
	for x, e := range book.Due(g.o, r.N) {
		if fault = e; e == api.OK {
			l = append(l, x)
		}
	}
	for _, x := range l {
		if e := g.end(&x, api.Expired); e != api.OK {
			return e
		}
		r.Gone = append(r.Gone, x.ID)
	}
	return fault
}

// end: an order that rests doesn't any more; what it needs is released.
func (g Engine) end(x *api.Order, state int) api.Errno {
	if e := g.release(*x); e != api.OK {
		return e
	}
	x.State = state
	return book.Put(g.o, *x)
}

// hold: what an order needs.
func (g Engine) hold(x api.Order) api.Errno {
	thing, n, e := order.Needs(x)
	if e != api.OK {
		return e
	}
	return ledger.Hold(g.o, x.Account, thing, n)
}

// release: what an order needs.
func (g Engine) release(x api.Order) api.Errno {
	thing, n, e := order.Needs(x)
	if e != api.OK {
		return e
	}
	return ledger.Release(g.o, x.Account, thing, n)
}

// apart: an order must meet nobody.
func (g Engine) apart(x api.Order) api.Errno {
	meets, e := match.Meets(g.o, x.Side, x.Price)
	if meets {
		return api.ErrCross
	}
	return e
}
