package script

import (
	"strconv"
	"strings"

	"bourse/command"
)

// number is one that a line tells: its text, and how it becomes that of another text.
// A text that is none of its sort makes some other number, which isn't printed so.
type number struct {
	text string
	set  func(text string)
}

// numbers: those that a line of its kind tells, in order.
func (l *Line) numbers() []number {
	fields := command.Fields(l.Kind)
	if !l.isOperation() {
		fields = strings.Fields(others[l.Kind-Flush].fields)
	}
	var all []number
	for _, field := range fields {
		all = append(all, l.number(field))
	}
	return all
}

func (l *Line) number(field string) number {
	switch field {
	case "a":
		return signed(&l.A)
	case "b":
		return signed(&l.B)
	case "price":
		return signed(&l.Op.Price)
	case "size":
		return signed(&l.Op.Size)
	case "side":
		return small(&l.Op.Side)
	case "type":
		return small(&l.Op.Type)
	case "thing":
		return small(&l.Op.Thing)
	case "most":
		return small(&l.Op.Most)
	case "account":
		return count(&l.Op.Account)
	case "id":
		return count(&l.Op.ID)
	case "expiry":
		return count(&l.Op.Expiry)
	}
	return count(&l.Op.N)
}

func count(at *uint64) number {
	return number{
		text: strconv.FormatUint(*at, 10),
		set:  func(text string) { *at, _ = strconv.ParseUint(text, 10, 64) },
	}
}

func small(at *int) number {
	return number{
		text: strconv.Itoa(*at),
		set:  func(text string) { *at, _ = strconv.Atoi(text) },
	}
}

func signed(at *int64) number {
	return number{
		text: strconv.FormatInt(*at, 10),
		set:  func(text string) { *at, _ = strconv.ParseInt(text, 10, 64) },
	}
}
