package script

import (
	"math"
	"slices"

	"bourse/api"
	"bourse/disk"
	"bourse/engine"
	"bourse/session"
	"bourse/store"
)

// Shell is a disk, and a market on it.
type Shell struct {
	Disk   *disk.Disk
	Market *session.Market
	Err    api.Errno
}

// Start: a shell.
func Start(room int, o store.Options) (*Shell, api.Errno) {
	d, e := disk.New(room)
	if e != api.OK {
		return nil, e
	}
	m, e := session.Open(d, o)
	if e != api.OK {
		return nil, e
	}
	return &Shell{Disk: d, Market: m}, api.OK
}

// Do: a line.
func (h *Shell) Do(l Line) (engine.Reply, api.Errno) {
	if h == nil {
		return engine.Reply{}, api.ErrNil
	}
	if _, e := Print(l); e != api.OK {
		return engine.Reply{}, e
	}
	if h.Err != api.OK && l.Kind != Crash {
		return engine.Reply{}, h.Err
	}
	if l.isOperation() {
		return h.Market.Do(l.Op), api.OK
	}
	return engine.Reply{}, h.do(l.Kind, nearest(l.A), nearest(l.B))
}

// do: what isn't the market's.
func (h *Shell) do(kind, a, b int) api.Errno {
	switch kind {
	case Flush:
		return h.Market.Store().Flush()
	case Compact:
		return h.Market.Store().Compact(a, b)
	case Crash:
		return h.crash(a)
	case Fuse:
		h.Disk.Fuse(a)
	case Fault:
		h.Disk.Fault(a)
	}
	return api.OK
}

// crash: the power goes, and comes again, and the market is opened anew.
func (h *Shell) crash(keep int) api.Errno {
	h.Disk.Crash(slices.Repeat([]api.Fate{{Keep: keep}}, len(h.Disk.List())))
	m, e := session.Open(h.Disk, h.Market.Store().Options())
	// Where there is none, the one ahead of it still tells the options by which another crash opens one.
	if e == api.OK {
		h.Market = m
	}
	h.Err = e
	return e
}

// nearest: the int that is the number, or next to it.
func nearest(n int64) int { return int(min(max(n, math.MinInt), math.MaxInt)) }
