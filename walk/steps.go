package walk

import (
	"iter"

	"bourse/api"
)

// begin: a walk ahead of all trades.
func begin() Path { return Path{Heading: 1} }

// paths: the walk behind each trade. What it goes through is the list itself.
func paths(l []api.Trade) iter.Seq[Path] {
	return func(yield func(Path) bool) {
		p := begin()
		var last int64
		for _, t := range l {
			p = p.Then(last, t)
			last = t.Price
			if !yield(p) {
				return
			}
		}
	}
}

// turned: a heading, as a price behind another one turns it.
func turned(heading complex128, last, price int64) complex128 {
	// Less than 0, and not with another sign: a 0 stays without one.
	switch {
	case price > last:
		return complex(0-imag(heading), real(heading))
	case price < last:
		return complex(imag(heading), 0-real(heading))
	}
	return heading
}

// least: part by part.
func least(a, b complex128) complex128 {
	return complex(min(real(a), real(b)), min(imag(a), imag(b)))
}

// greatest: part by part.
func greatest(a, b complex128) complex128 {
	return complex(max(real(a), real(b)), max(imag(a), imag(b)))
}

// marks: what stands at the places that have something. Of two at one place the later one stands: the end's ahead of the others', that of 0 ahead of all.
func marks(l []api.Trade) map[complex128]byte {
	grid := map[complex128]byte{}
	for at := range Places(l) {
		grid[at] = '+'
	}
	grid[Of(l).At] = 'X'
	grid[0] = 'O'
	return grid
}

// mark: what stands at a place.
func mark(grid map[complex128]byte, at complex128) byte {
	if c, ok := grid[at]; ok {
		return c
	}
	return '.'
}
