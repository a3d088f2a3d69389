package whole

import (
	"strings"

	"tapewright/nat"
)

// number is a whole number: how far it is from 0, a natural, and on which
// side. A size of 0 may come with either side; text and sign do not tell them
// apart. As the sizes are naturals, the calls of nat that are made with them
// tell no ErrForm.
type number struct {
	below bool
	size  string
}

func parse(s string) (number, bool) {
	size, below := strings.CutPrefix(s, "-")
	if !nat.Right(size) || below && size == "0" {
		return number{}, false
	}
	return number{below: below, size: size}, true
}

func parseBoth(a, b string) (number, number, bool) {
	x, xOk := parse(a)
	y, yOk := parse(b)
	return x, y, xOk && yOk
}

func (x number) text() string {
	if x.sign() < 0 {
		return "-" + x.size
	}
	return x.size
}

func (x number) sign() int {
	switch {
	case x.size == "0":
		return 0
	case x.below:
		return -1
	}
	return 1
}

func (x number) negated() number {
	return number{below: !x.below, size: x.size}
}

// add hands nat the greater size first where the sides differ, as a natural
// is taken only off one that is not less.
func add(x, y number) number {
	if x.below == y.below {
		size, _ := nat.Add(x.size, y.size)
		return number{below: x.below, size: size}
	}
	if c, _ := nat.Compare(x.size, y.size); c < 0 {
		x, y = y, x
	}
	size, _ := nat.Sub(x.size, y.size)
	return number{below: x.below, size: size}
}
