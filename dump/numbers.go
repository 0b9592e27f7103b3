package dump

import "bourse/api"

// The names of a market's numbers.
const (
	clock = "clock"
	ids   = "id"
	ranks = "rank"
	cash  = "net1"
	goods = "net2"
)

// names: in the order in which the numbers are told.
var names = [...]string{clock, ids, ranks, cash, goods}

// asked: each number, by its name; the first error.
func asked(tell func(name string) (uint64, api.Errno)) (map[string]uint64, api.Errno) {
	all := map[string]uint64{}
	for _, name := range names {
		n, e := tell(name)
		if e != api.OK {
			return nil, e
		}
		all[name] = n
	}
	return all, api.OK
}

// counted: a dump that has these numbers, and nothing else.
func counted(n map[string]uint64) Dump {
	return Dump{Clock: n[clock], IDs: n[ids], Ranks: n[ranks], Net: [2]uint64{n[cash], n[goods]}}
}

// numbers: those that a dump has, by their names.
func (d Dump) numbers() map[string]uint64 {
	return map[string]uint64{clock: d.Clock, ids: d.IDs, ranks: d.Ranks, cash: d.Net[0], goods: d.Net[1]}
}
