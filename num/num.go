// Package num encodes numbers in fields of fixed width: see DOC.md, chapter 1.
package num

// The widths that a field can have, in bytes.
const (
	short = 8
	long  = 12
)

// The first byte of a binary field tells the sign. Neither of the two is an
// octal digit, so no string is both an octal and a binary field.
const (
	plus  = 128
	minus = 255
)

// noField is what a computation panics with when it meets a number that has
// no field, or a string that is none. It never leaves the package.
type noField struct{}

// Octal returns n as an octal field.
func Octal(n, width int) (string, bool) {
	return attempt(func() string { return octal(n, width) })
}

// ReadOctal returns the number whose Octal is s.
func ReadOctal(s string) (int, bool) {
	return attempt(func() int { return readAs(octal, octalValue, s) })
}

// Base returns n as a binary field.
func Base(n, width int) (string, bool) {
	return attempt(func() string { return base(n, width) })
}

// ReadBase returns the number whose Base is s.
func ReadBase(s string) (int, bool) {
	return attempt(func() int { return readAs(base, baseValue, s) })
}

// Field returns n as an octal field, or as a binary one if it has no octal one.
func Field(n, width int) (string, bool) {
	return attempt(func() string { return field(n, width) })
}

// ReadField returns the number whose Field is s.
func ReadField(s string) (int, bool) {
	return attempt(func() int { return readAs(field, fieldValue, s) })
}

// attempt returns what compute returns, or false if compute panics: then the
// answer has not been set and is still its zero value.
func attempt[T any](compute func() T) (answer T, ok bool) {
	defer func() { ok = recover() == nil }()
	return compute(), true
}

// readAs returns the number whose field is s. The value that is taken from s
// is only a guess: s counts as a field just if the guess encodes to s again,
// so each number has one field at most, whatever else could be read as it.
func readAs(encode func(n, width int) string, value func(s string) int, s string) int {
	checkWidth(len(s))
	n := value(s)
	if encode(n, len(s)) != s {
		panic(noField{})
	}
	return n
}

func checkWidth(width int) {
	if width != short && width != long {
		panic(noField{})
	}
}

func octal(n, width int) string {
	checkWidth(width)
	digits := width - 1
	if n < 0 || n>>(3*digits) != 0 {
		panic(noField{})
	}
	b := make([]byte, width)
	for i := digits - 1; i >= 0; i-- {
		b[i] = '0' + byte(n&7)
		n >>= 3
	}
	return string(b)
}

// octalValue takes any byte for a digit; readAs sorts out what is none. Eleven
// bytes give less than 2^42, so nothing wraps round.
func octalValue(s string) int {
	n := 0
	for i := 0; i < len(s)-1; i++ {
		n = n*8 + int(s[i]) - '0'
	}
	return n
}

func base(n, width int) string {
	checkWidth(width)
	// The shift keeps the sign: it leaves 0 or -1 of a number that fits.
	if rest := n >> 56; width == short && rest != 0 && rest != -1 {
		panic(noField{})
	}
	b := make([]byte, width)
	b[0] = plus
	if n < 0 {
		b[0] = minus
	}
	for i := width - 1; i > 0; i-- {
		b[i] = byte(n)
		n >>= 8
	}
	return string(b)
}

// baseValue starts with the bits of the sign, so that a short field below
// nought is filled up to the bits of an int. Of a long field the highest bytes
// are shifted out; readAs sorts out those that said more than the sign.
func baseValue(s string) int {
	n := 0
	if s[0] == minus {
		n = -1
	}
	for i := 1; i < len(s); i++ {
		n = n<<8 | int(s[i])
	}
	return n
}

func field(n, width int) string {
	if s, ok := Octal(n, width); ok {
		return s
	}
	return base(n, width)
}

func fieldValue(s string) int {
	if s[0] < plus {
		return octalValue(s)
	}
	return baseValue(s)
}
