package lines

import (
	"truchman/api"
	"truchman/name"
)

const (
	maxDigits = 18
	maxText   = 300
)

// bad is what a bad line is given up with, by a panic.
type bad struct{}

// args is the words of a line behind its first one that were not taken yet.
type args struct {
	words []string
}

// next is the next word; a line that has none is bad.
func (l *args) next() string {
	if len(l.words) == 0 {
		panic(bad{})
	}
	w := l.words[0]
	l.words = l.words[1:]
	return w
}

// end makes a line bad that has words left.
func (l *args) end() {
	if len(l.words) > 0 {
		panic(bad{})
	}
}

// number is the next word as a number.
func (l *args) number() int {
	digits := l.next()
	sign := 1
	if digits[0] == '-' {
		digits, sign = digits[1:], -1
	}
	if len(digits) == 0 || len(digits) > maxDigits {
		panic(bad{})
	}
	n := 0
	for i := range len(digits) {
		if digits[i] < '0' || digits[i] > '9' {
			panic(bad{})
		}
		n = 10*n + int(digits[i]-'0')
	}
	return sign * n
}

// number32 is the next word as a number of 32 bits.
func (l *args) number32() uint32 {
	n := l.number()
	if n < 0 || n > maxNumber {
		panic(bad{})
	}
	return uint32(n)
}

// text is the text whose print the next word is.
func (l *args) text() string {
	s, e := name.Scan(l.next())
	if e != api.OK || len(s) > maxText {
		panic(bad{})
	}
	return s
}

// texts is all words that are left as texts.
func (l *args) texts() []string {
	if len(l.words) > api.MaxWalk {
		panic(bad{})
	}
	var all []string
	for len(l.words) > 0 {
		all = append(all, l.text())
	}
	return all
}
