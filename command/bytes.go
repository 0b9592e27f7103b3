package command

import (
	"math"
	"strings"

	"bourse/api"
	"bourse/varint"
)

// cell is where a field of an operation stands: one of the three is there.
type cell struct {
	count  *uint64
	small  *int
	signed *int64
}

// Bytes: an operation's.
func Bytes(o Op) (string, api.Errno) {
	if !isKind(o.Kind) {
		return "", api.ErrKind
	}
	s := string([]byte{byte(o.Kind)})
	for _, c := range o.cells() {
		s += c.bytes()
	}
	// What its kind doesn't tell isn't in its bytes, and a small number beyond its ends isn't read.
	if told, e := Parse(s); e != api.OK || told != o {
		return "", api.ErrForm
	}
	return s, api.OK
}

// Parse: the operation that bytes are.
func Parse(s string) (Op, api.Errno) {
	if s == "" || !isKind(int(s[0])) {
		return Op{}, api.ErrKind
	}
	o := Op{Kind: int(s[0])}
	r := varint.Over(s[1:])
	fits := true
	for _, c := range o.cells() {
		fits = c.read(r) && fits
	}
	if e := r.End(); e != api.OK {
		return Op{}, e
	}
	if !fits {
		return Op{}, api.ErrForm
	}
	return o, api.OK
}

// cells: of the fields that its kind tells, in order.
func (o *Op) cells() []cell {
	var l []cell
	for field := range strings.FieldsSeq(forms[o.Kind].fields) {
		l = append(l, o.cell(field))
	}
	return l
}

func (o *Op) cell(field string) cell {
	switch field {
	case "account":
		return cell{count: &o.Account}
	case "id":
		return cell{count: &o.ID}
	case "side":
		return cell{small: &o.Side}
	case "type":
		return cell{small: &o.Type}
	case "thing":
		return cell{small: &o.Thing}
	case "most":
		return cell{small: &o.Most}
	case "price":
		return cell{signed: &o.Price}
	case "size":
		return cell{signed: &o.Size}
	case "expiry":
		return cell{count: &o.Expiry}
	}
	return cell{count: &o.N}
}

func (c cell) bytes() string {
	switch {
	case c.small != nil:
		return varint.Num(uint64(*c.small))
	case c.signed != nil:
		return varint.Signed(*c.signed)
	}
	return varint.Num(*c.count)
}

// read: what comes next is there; does it fit?
func (c cell) read(r *varint.Reader) bool {
	switch {
	case c.small != nil:
		n := r.Num()
		*c.small = int(n)
		return n <= math.MaxInt32
	case c.signed != nil:
		*c.signed = r.Signed()
	default:
		*c.count = r.Num()
	}
	return true
}
