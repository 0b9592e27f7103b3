package walk_test

import (
	"fmt"
	"slices"
	"strings"
	"testing"

	"bourse/api"
	"bourse/walk"
)

// dice: numbers that look like chance, the same each time.
type dice uint64

func (d *dice) below(n int) int {
	*d = *d*6364136223846793005 + 1442695040888963407
	x := uint64(*d)
	return int((x ^ x>>29) >> 20 % uint64(n))
}

// trades: up to so many, of sizes below another number, some below 1.
func (d *dice) trades(n, size int) []api.Trade {
	l := make([]api.Trade, d.below(n+1))
	for i := range l {
		l[i] = api.Trade{Maker: uint64(d.below(9)), Taker: uint64(d.below(9)), Price: int64(d.below(5) - 2), Size: int64(d.below(size) - size/8)}
	}
	return l
}

// place: one of the grid, in numbers without a point.
type place struct{ x, y int }

func (p place) told() complex128 { return complex(float64(p.x), float64(p.y)) }

// story: a walk told once more, step by step, the headings by a table.
type story struct {
	at, heading, low, high place
	ends                   []place
	turned                 int
}

func told(l []api.Trade) story {
	headings := []place{{1, 0}, {0, 1}, {-1, 0}, {0, -1}}
	var s story
	way := 0
	for i, t := range l {
		if i > 0 && t.Price != l[i-1].Price {
			s.turned++
			if t.Price > l[i-1].Price {
				way++
			} else {
				way += 3
			}
		}
		for step := int64(0); step < t.Size && step < 1000; step++ {
			s.at.x += headings[way%4].x
			s.at.y += headings[way%4].y
		}
		s.low = place{min(s.low.x, s.at.x), min(s.low.y, s.at.y)}
		s.high = place{max(s.high.x, s.at.x), max(s.high.y, s.at.y)}
		s.ends = append(s.ends, s.at)
	}
	s.heading = headings[way%4]
	return s
}

// rows: the grid, drawn from the ends.
func (s story) rows(most int) string {
	most = min(most, 200)
	if s.high.x-s.low.x > most || s.high.y-s.low.y > most {
		return ""
	}
	var rows strings.Builder
	for y := s.high.y; y >= s.low.y; y-- {
		for x := s.low.x; x <= s.high.x; x++ {
			at := place{x, y}
			switch {
			case at == place{}:
				rows.WriteString("O")
			case at == s.at:
				rows.WriteString("X")
			case slices.Contains(s.ends, at):
				rows.WriteString("+")
			default:
				rows.WriteString(".")
			}
		}
		rows.WriteString("\n")
	}
	return rows.String()
}

// TestModel is P34.1 and P34.2 by dice.
func TestModel(t *testing.T) {
	d := dice(34)
	for range 3000 {
		l := d.trades(12, []int{4, 10, 80, 1500}[d.below(4)])
		s := told(l)
		p := walk.Of(l)
		want(t, fmt.Sprint("of ", l), p, walk.Path{At: s.at.told(), Heading: s.heading.told(), Steps: len(l), Low: s.low.told(), High: s.high.told()})
		want(t, fmt.Sprint("corners of ", l), walk.Corners(l), s.turned)
		wide, high := p.Box()
		want(t, fmt.Sprint("the box of ", l), place{wide, high}, place{s.high.x - s.low.x, s.high.y - s.low.y})
		i := 0
		for at := range walk.Places(l) {
			want(t, fmt.Sprint("place ", i, " of ", l), at, s.ends[i].told())
			i++
		}
		want(t, fmt.Sprint("how many places ", l, " has"), i, len(l))
		for _, most := range []int{d.below(40) - 2, max(wide, high), max(wide, high) - 1, 1000} {
			want(t, fmt.Sprint("the grid of ", l, ", most ", most), walk.Draw(l, most), s.rows(most))
		}
	}
}

// TestModelThen is P34.1 by dice: a walk goes on from trade to trade.
func TestModelThen(t *testing.T) {
	d := dice(341)
	for range 1000 {
		l := d.trades(12, 1200)
		p := walk.Of(nil)
		last := int64(d.below(9) - 4)
		for i, one := range l {
			p = p.Then(last, one)
			last = one.Price
			want(t, fmt.Sprint("behind ", i+1, " of ", l), p, walk.Of(l[:i+1]))
		}
	}
}

// mirrored: a number's conjugate.
func mirrored(z complex128) complex128 { return complex(real(z), -imag(z)) }

// TestFollows is P34.3: prices that fall where the others rise, and rise where they fall.
func TestFollows(t *testing.T) {
	d := dice(342)
	for range 2000 {
		l := d.trades(12, 30)
		other := slices.Clone(l)
		for i := range other {
			other[i].Price = 7 - 1000*l[i].Price
		}
		p, q := walk.Of(l), walk.Of(other)
		want(t, fmt.Sprint("where it is: ", l), q.At, mirrored(p.At))
		want(t, fmt.Sprint("where it heads: ", l), q.Heading, mirrored(p.Heading))
		want(t, fmt.Sprint("the least: ", l), q.Low, complex(real(p.Low), -imag(p.High)))
		want(t, fmt.Sprint("the greatest: ", l), q.High, complex(real(p.High), -imag(p.Low)))
		want(t, fmt.Sprint("corners: ", l), walk.Corners(other), walk.Corners(l))
		places := slices.Collect(walk.Places(l))
		for i, at := range slices.Collect(walk.Places(other)) {
			want(t, fmt.Sprint("place ", i, " of ", l), at, mirrored(places[i]))
		}
		rows := strings.SplitAfter(walk.Draw(l, 200), "\n")
		slices.Reverse(rows)
		want(t, fmt.Sprint("the grid: ", l), walk.Draw(other, 200), strings.Join(rows, ""))
	}
}
