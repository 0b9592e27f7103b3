package merge

import "bourse/api"

// source: a row that is asked for one thing at a time.
type source struct {
	next func() (api.Entry, bool) // the thing that is next; not to be called any more, where there was none
	stop func()                   // the row is left; it has ended, when this answers
	head api.Entry                // what it gave last
	more bool                     // is there a head?
}

// open: a row's, of which nothing was asked yet.
func open(r Row) *source {
	asks, gives := make(chan struct{}), make(chan api.Entry)
	var broke any // what the row panicked with
	// Only one of several rows can be gone through here: each has a goroutine, which goes on only while somebody waits for it.
	go func() {
		defer close(gives)
		defer func() { broke = recover() }()
		give(r, asks, gives)
	}()
	raise := func() {
		if b := broke; b != nil {
			broke = nil
			panic(b)
		}
	}
	next := func() (api.Entry, bool) {
		asks <- struct{}{}
		e, more := <-gives
		if !more {
			raise()
		}
		return e, more
	}
	stop := func() {
		close(asks)
		<-gives
		raise()
	}
	return &source{next: next, stop: stop}
}

// give: a row's things, each once it is asked for, till nobody can ask any more.
func give(r Row, asks <-chan struct{}, gives chan<- api.Entry) {
	if _, asked := <-asks; !asked {
		return
	}
	for e := range r {
		gives <- e
		if _, asked := <-asks; !asked {
			return
		}
	}
}

// ask: its next thing is its head.
func (s *source) ask() { s.head, s.more = s.next() }
