package candle

import (
	"slices"

	"bourse/api"
)

// Of: of each so many things one.
func Of[T Priced](l []T, every int) ([]Candle, api.Errno) {
	return spans(l, every, func(x T) Candle { return One(told(x)) })
}

// Fold: each so many as one.
func Fold(l []Candle, every int) ([]Candle, api.Errno) {
	return spans(l, every, func(c Candle) Candle { return c })
}

// spans: of each so many things one, each thing being a candle by itself.
func spans[T any](l []T, every int, candle func(T) Candle) ([]Candle, api.Errno) {
	if every < 1 {
		return nil, api.ErrArg
	}
	var out []Candle
	for span := range slices.Chunk(l, every) {
		c, e := joined(span, candle)
		if e != api.OK {
			return nil, e
		}
		out = append(out, c)
	}
	return out, api.OK
}

// joined: a span's things, one behind the other.
func joined[T any](span []T, candle func(T) Candle) (Candle, api.Errno) {
	var all Candle // without trades: the first one stands as it is
	for _, x := range span {
		more, e := all.Join(candle(x))
		if e != api.OK {
			return Candle{}, e
		}
		all = more
	}
	return all, api.OK
}

// told: a thing's price and size; both 0 where it can't tell them, as a nil pointer to a Tick can't: no call panics, whatever it is given.
func told(x Priced) (price, size int64) {
	defer func() { _ = recover() }()
	return x.At()
}
