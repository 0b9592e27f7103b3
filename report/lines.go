package report

import (
	"iter"
	"strconv"
	"strings"

	"bourse/version"
)

// line: parts with one blank between them.
func line(parts ...string) string { return strings.Join(parts, " ") }

// joined: all lines of the rows, row by row, each with something ahead of it and behind it.
func joined(ahead, behind string, rows ...iter.Seq[string]) string {
	var b strings.Builder
	for _, row := range rows {
		for s := range row {
			b.WriteString(ahead)
			b.WriteString(s)
			b.WriteString(behind)
		}
	}
	return b.String()
}

// each: what is told of each thing of a list.
func each[T any](l []T, tell func(T) string) iter.Seq[string] {
	return func(yield func(string) bool) {
		for _, x := range l {
			if !yield(tell(x)) {
				return
			}
		}
	}
}

// where: the line, where it is to be told.
func where(told bool, s string) iter.Seq[string] {
	return func(yield func(string) bool) {
		if told {
			yield(s)
		}
	}
}

// levels: a line of each level that has files.
func levels(v version.Version) iter.Seq[string] {
	return func(yield func(string) bool) {
		for n, files := range v.Levels {
			if len(files) > 0 && !yield(line("level", strconv.Itoa(n))+joined(" ", "", each(files, file))) {
				return
			}
		}
	}
}

// named: a number's name, the first one's being 1's; of a number without one the word and it.
func named(word string, n int, names ...string) string {
	if n >= 1 && n <= len(names) {
		return names[n-1]
	}
	return word + strconv.Itoa(n)
}

func count(n uint64) string { return strconv.FormatUint(n, 10) }

func signed(n int64) string { return strconv.FormatInt(n, 10) }
