package stamp

import (
	"math"
	"math/big"
	"regexp"
	"strings"
	"testing"

	"gripsack/api"
)

const maxSec = 1 << 40

// rat returns t as a fraction.
func rat(t api.Stamp) *big.Rat {
	nano := big.NewRat(int64(t.Nano), 1e9)
	return nano.Add(nano, new(big.Rat).SetInt64(int64(t.Sec)))
}

// wantText writes t by the fractions of math/big.
func wantText(t api.Stamp) string {
	return strings.TrimRight(strings.TrimRight(rat(t).FloatString(9), "0"), ".")
}

// secs are seconds at the limits and at nought, round ones and others.
func secs() []int {
	l := []int{10, 100, 1000, 86399, 86400, 1763424000, 1e12, 1 << 31, 1<<31 - 1, 1 << 32, 1<<33 - 1, 1<<39 + 7, maxSec - 2, maxSec - 1}
	for n := range 13 {
		l = append(l, n)
	}
	for _, n := range l {
		l = append(l, -n)
	}
	return append(l, maxSec, -maxSec)
}

func nanos() []int {
	l := []int{0, 1, 2, 5, 9, 10, 11, 499999999, 500000001, 123456789, 987654321, 100000001, 999999990, 999999998, 999999999}
	for n := 1; n < 1e9; n *= 10 {
		l = append(l, n, 5*n, 1e9-n, 101*n%1e9)
	}
	return l
}

// stamps are valid ones: all pairs of secs and nanos.
func stamps() []api.Stamp {
	var l []api.Stamp
	for _, sec := range secs() {
		for _, nano := range nanos() {
			l = append(l, api.Stamp{Sec: sec, Nano: nano})
		}
	}
	return l
}

// parsesAs tells a fault if Parse of s answers otherwise.
func parsesAs(t *testing.T, s string, want api.Stamp, ok bool) {
	t.Helper()
	if got, is := Parse(s); got != want || is != ok {
		t.Errorf("2.1: Parse(%.60q) of %d bytes = %v, %v; want %v, %v", s, len(s), got, is, want, ok)
	}
}

func floatsAs(t *testing.T, f float64, want api.Stamp, ok bool) {
	t.Helper()
	if got, is := FromFloat(f); got != want || is != ok {
		t.Errorf("2.2: FromFloat(%v) = %v, %v; want %v, %v", f, got, is, want, ok)
	}
}

func TestExamples(t *testing.T) {
	if May(api.Stamp{Nano: 1000000000}) {
		t.Error("2.1: May of Nano 1000000000")
	}
	if s := Text(api.Stamp{Sec: -2, Nano: 500000000}); s != "-1.5" {
		t.Errorf("2.1: Text = %q", s)
	}
	parsesAs(t, "1.50", api.Stamp{}, false)
	if c := Cmp(api.Stamp{Sec: -2, Nano: 5}, api.Stamp{Sec: -1}); c != -1 {
		t.Errorf("2.1: Cmp = %d", c)
	}
	floatsAs(t, -1.5, api.Stamp{Sec: -2, Nano: 500000000}, true)
	if f := Float(api.Stamp{Sec: 3, Nano: 250000000}); f != 3.25 {
		t.Errorf("2.2: Float = %v", f)
	}
}

func TestMay(t *testing.T) {
	for _, x := range stamps() {
		if !May(x) {
			t.Errorf("2.1: May(%v) is false", x)
		}
	}
	for _, sec := range []int{maxSec + 1, -maxSec - 1, 1 << 41, -1 << 41, math.MaxInt, math.MinInt} {
		for _, nano := range nanos() {
			if x := (api.Stamp{Sec: sec, Nano: nano}); May(x) {
				t.Errorf("2.1: May(%v) is true", x)
			}
		}
	}
	for _, nano := range []int{-1, -1e9, 1e9, 1e9 + 1, 2e9, 1 << 32, 1<<32 + 5, math.MaxInt, math.MinInt} {
		for _, sec := range secs() {
			if x := (api.Stamp{Sec: sec, Nano: nano}); May(x) {
				t.Errorf("2.1: May(%v) is true", x)
			}
		}
	}
}

func TestTexts(t *testing.T) {
	for _, x := range stamps() {
		want := wantText(x)
		if s := Text(x); s != want {
			t.Errorf("2.1: Text(%v) = %q; want %q", x, s, want)
		}
		parsesAs(t, want, x, true)
	}
}

// Texts written out by hand, the last valid times among them.
func TestTextEdges(t *testing.T) {
	for _, c := range []struct {
		t    api.Stamp
		want string
	}{
		{api.Stamp{}, "0"},
		{api.Stamp{Sec: 10}, "10"},
		{api.Stamp{Sec: -10}, "-10"},
		{api.Stamp{Nano: 1}, "0.000000001"},
		{api.Stamp{Nano: 10}, "0.00000001"},
		{api.Stamp{Nano: 999999999}, "0.999999999"},
		{api.Stamp{Sec: -1, Nano: 1}, "-0.999999999"},
		{api.Stamp{Sec: -1, Nano: 999999999}, "-0.000000001"},
		{api.Stamp{Sec: -1, Nano: 900000000}, "-0.1"},
		{api.Stamp{Sec: -11, Nano: 990000000}, "-10.01"},
		{api.Stamp{Sec: maxSec}, "1099511627776"},
		{api.Stamp{Sec: maxSec, Nano: 999999999}, "1099511627776.999999999"},
		{api.Stamp{Sec: -maxSec}, "-1099511627776"},
		{api.Stamp{Sec: -maxSec, Nano: 1}, "-1099511627775.999999999"},
		{api.Stamp{Sec: -maxSec, Nano: 999999999}, "-1099511627775.000000001"},
	} {
		if s := Text(c.t); s != c.want {
			t.Errorf("2.1: Text(%v) = %q; want %q", c.t, s, c.want)
		}
		parsesAs(t, c.want, c.t, true)
	}
}

func TestOtherTexts(t *testing.T) {
	for _, s := range []string{
		// Other forms.
		"", "-", ".", "-.", "1.", "-1.", ".5", "-.5", "0.", "1..5", "1.5.", "1.5.5", "1,5", "1.5s", "1:5",
		"1e3", "1E3", "1.5e1", "0x1", "0b1", "0o7", "1_000", "1'000", "NaN", "Inf", "-Inf", "inf", "nil",
		" 1", "1 ", "1 .5", "1. 5", "\t1", "1\n", "1\r\n", "1\x00", "\x001", "1.5\x00", "\xff", "１", "٣", "−1", "½", "1\u00a0",
		"a", "1a", "a1", "1.a", "1.5a", "1.-5", "1.+5", "1.5-", "1-", "1-1", "/", ":", "1/", "1:", "1./", "1.:",
		// Other signs.
		"+0", "+1", "+1.5", "-0", "--1", "+-1", "-+1", "- 1", "-0.0", "-0.000000000", "---",
		// Trailing zeros, and too many digits behind the point.
		"0.0", "1.0", "-1.0", "1.50", "-1.50", "1.000000000", "1.500000000", "1.123456780", "0.0000000010",
		"1.0000000001", "0.0000000000", "1.1234567891", "1.12345678900", "-0.0000000001", "1.5000000005", "1.0000000000",
		// Leading zeros.
		"00", "01", "-01", "-00", "001.5", "00.5", "-00.5", "0000000000000000000001", "01099511627776",
		// Times that aren't valid.
		"1099511627777", "-1099511627777", "1099511627777.5", "-1099511627776.5", "-1099511627776.000000001",
		"-1099511627776.999999999", "10995116277760", "9223372036854775807", "9223372036854775808", "-9223372036854775808",
		// Too long: 2^64 and what is just above, which wraps round to a valid time.
		"18446744073709551616", "18446744073709551617", "-18446744073709551617", "18446744073709551616.5",
		"18446744073709551615", "-18446744073709551615", "340282366920938463463374607431768211457",
		"99999999999999999999", "1.18446744073709551617", "0.18446744073709551616",
	} {
		parsesAs(t, s, api.Stamp{}, false)
	}
}

// Texts of one byte again and again, alone and beside parts of a text.
func TestLongTexts(t *testing.T) {
	for _, n := range []int{9, 10, 12, 13, 14, 19, 20, 21, 64, 1000, 1 << 16} {
		for _, b := range []string{"0", "1", "9", "-", ".", "a", "\xff", "\x00"} {
			long := strings.Repeat(b, n)
			for _, s := range []string{long, "-" + long, long + ".5", "1" + long, "1." + long, "1." + long + "5", "1.5" + long, "-0." + long} {
				want, ok := wantParse(s)
				if ok && len(s) > 24 {
					t.Fatalf("the test takes a string of %d bytes for a text", len(s))
				}
				parsesAs(t, s, want, ok)
			}
		}
	}
}

// form is that of a text; beside it only -0 is none.
var form = regexp.MustCompile(`\A(-?)(0|[1-9][0-9]*)(?:\.([0-9]{0,8}[1-9]))?\z`)

// wantParse reads s by its form and by the whole numbers of math/big.
func wantParse(s string) (api.Stamp, bool) {
	parts := form.FindStringSubmatch(s)
	if parts == nil || s == "-0" {
		return api.Stamp{}, false
	}
	digits := (parts[3] + "000000000")[:9]
	all, _ := new(big.Int).SetString(parts[1]+parts[2]+digits, 10)
	// DivMod of math/big is the Euclidean one: the nanoseconds are never below nought.
	sec, nano := new(big.Int).DivMod(all, big.NewInt(1e9), new(big.Int))
	if sec.CmpAbs(big.NewInt(maxSec)) > 0 {
		return api.Stamp{}, false
	}
	return api.Stamp{Sec: int(sec.Int64()), Nano: int(nano.Int64())}, true
}

// With a byte of a text turned, left out or put in, what is read is the time
// whose text that is, or nothing.
func TestTurnedBytes(t *testing.T) {
	check := func(s string) {
		want, ok := wantParse(s)
		parsesAs(t, s, want, ok)
	}
	for _, x := range []api.Stamp{{}, {Sec: 7}, {Sec: -10}, {Sec: 1, Nano: 500000000}, {Sec: -2, Nano: 500000000}, {Nano: 1}, {Sec: -1, Nano: 999999999}, {Sec: 20, Nano: 30}, {Sec: maxSec}, {Sec: -maxSec}, {Sec: maxSec, Nano: 999999999}, {Sec: -maxSec, Nano: 1}} {
		s := Text(x)
		for i := range len(s) + 1 {
			for b := range 256 {
				check(s[:i] + string([]byte{byte(b)}) + s[i:])
				if i < len(s) {
					check(s[:i] + string([]byte{byte(b)}) + s[i+1:])
				}
			}
			if i < len(s) {
				check(s[:i] + s[i+1:])
			}
		}
	}
}

// All texts of up to five of the bytes that a text is made of, and one other.
func TestShortTexts(t *testing.T) {
	texts := []string{""}
	for i := 0; i < len(texts); i++ {
		want, ok := wantParse(texts[i])
		parsesAs(t, texts[i], want, ok)
		if len(texts[i]) == 5 {
			continue
		}
		for _, b := range "-+.0159" {
			texts = append(texts, texts[i]+string(b))
		}
	}
}

func TestCmp(t *testing.T) {
	var l []api.Stamp
	for _, sec := range []int{-maxSec, -maxSec + 1, -1 << 33, -2, -1, 0, 1, 2, 1 << 33, maxSec - 1, maxSec} {
		for _, nano := range []int{0, 1, 5, 499999999, 500000000, 999999998, 999999999} {
			l = append(l, api.Stamp{Sec: sec, Nano: nano})
		}
	}
	for _, a := range l {
		for _, b := range l {
			if c, want := Cmp(a, b), rat(a).Cmp(rat(b)); c != want {
				t.Errorf("2.1: Cmp(%v, %v) = %d; want %d", a, b, c, want)
			}
		}
	}
}

// nearest rounds r to a float64, exactly.
func nearest(r *big.Rat) float64 {
	f, _ := r.Float64()
	return f
}

// wantFromFloat takes each step by the fractions of math/big, and rounds the
// difference and the product as float64 does.
func wantFromFloat(f float64) (api.Stamp, bool) {
	exact := new(big.Rat).SetFloat64(f)
	if exact == nil || new(big.Rat).Abs(exact).Cmp(big.NewRat(maxSec, 1)) > 0 {
		return api.Stamp{}, false
	}
	// The denominator is above nought, so that Div of math/big goes downwards.
	sec := new(big.Int).Div(exact.Num(), exact.Denom())
	whole := new(big.Rat).SetInt(sec)
	rest := new(big.Rat).SetFloat64(nearest(new(big.Rat).Sub(exact, whole)))
	product := new(big.Rat).SetFloat64(nearest(rest.Mul(rest, big.NewRat(1e9, 1))))
	nano := new(big.Int).Quo(product.Num(), product.Denom()).Int64()
	return api.Stamp{Sec: int(sec.Int64()), Nano: int(min(nano, 999999999))}, true
}

func TestFloatEdges(t *testing.T) {
	up, down := math.Inf(1), math.Inf(-1)
	tiny := math.SmallestNonzeroFloat64
	for _, c := range []struct {
		f    float64
		want api.Stamp
		ok   bool
	}{
		{math.NaN(), api.Stamp{}, false},
		{math.Copysign(math.NaN(), -1), api.Stamp{}, false},
		{math.Float64frombits(0x7ff0000000000001), api.Stamp{}, false},
		{up, api.Stamp{}, false},
		{down, api.Stamp{}, false},
		{math.MaxFloat64, api.Stamp{}, false},
		{-math.MaxFloat64, api.Stamp{}, false},
		{1 << 63, api.Stamp{}, false},
		{-1 << 63, api.Stamp{}, false},
		{1 << 64, api.Stamp{}, false},
		{maxSec + 1, api.Stamp{}, false},
		{-maxSec - 1, api.Stamp{}, false},
		{math.Nextafter(maxSec, up), api.Stamp{}, false},
		{math.Nextafter(-maxSec, down), api.Stamp{}, false},
		{maxSec, api.Stamp{Sec: maxSec}, true},
		{-maxSec, api.Stamp{Sec: -maxSec}, true},
		// 2^-13 of a second below MaxSec, and above -MaxSec.
		{math.Nextafter(maxSec, down), api.Stamp{Sec: maxSec - 1, Nano: 999877929}, true},
		{math.Nextafter(-maxSec, up), api.Stamp{Sec: -maxSec, Nano: 122070}, true},
		{0, api.Stamp{}, true},
		{math.Copysign(0, -1), api.Stamp{}, true},
		{tiny, api.Stamp{}, true},
		{-tiny, api.Stamp{Sec: -1, Nano: 999999999}, true},
		{-1e-300, api.Stamp{Sec: -1, Nano: 999999999}, true},
		{-1e-17, api.Stamp{Sec: -1, Nano: 999999999}, true},
		{-1e-10, api.Stamp{Sec: -1, Nano: 999999999}, true},
		{math.Nextafter(1, down), api.Stamp{Nano: 999999999}, true},
		{math.Nextafter(1, up), api.Stamp{Sec: 1}, true},
		{math.Nextafter(2, down), api.Stamp{Sec: 1, Nano: 999999999}, true},
		{math.Nextafter(-1, up), api.Stamp{Sec: -1}, true},
		{math.Nextafter(-1, down), api.Stamp{Sec: -2, Nano: 999999999}, true},
		{-0.5, api.Stamp{Sec: -1, Nano: 500000000}, true},
		{0.999999999, api.Stamp{Nano: 999999999}, true},
		{0.9999999999, api.Stamp{Nano: 999999999}, true},
		{1e-9, api.Stamp{Nano: 1}, true},
		{9e-10, api.Stamp{}, true},
		{-1, api.Stamp{Sec: -1}, true},
		// The difference is a float64 too: from the exact one the product would be 782805920.
		{-0.21719408, api.Stamp{Sec: -1, Nano: 782805919}, true},
	} {
		floatsAs(t, c.f, c.want, c.ok)
	}
}

// floats are those of the stamps, powers of two, and the neighbours of all of these.
func floats() []float64 {
	var l []float64
	for _, x := range stamps() {
		l = append(l, nearest(rat(x)))
	}
	for e := -1074; e < 1024; e++ {
		l = append(l, math.Ldexp(1, e), -math.Ldexp(1, e), math.Ldexp(1.1, e), -math.Ldexp(1.1, e))
	}
	for _, f := range l {
		l = append(l, math.Nextafter(f, math.Inf(1)), math.Nextafter(f, math.Inf(-1)))
	}
	return l
}

func TestFloats(t *testing.T) {
	for _, f := range floats() {
		want, ok := wantFromFloat(f)
		floatsAs(t, f, want, ok)
		if x, is := FromFloat(f); is && !May(x) {
			t.Errorf("2.2: FromFloat(%v) = %v, which isn't valid", f, x)
		}
	}
}

func TestFloatOfStamps(t *testing.T) {
	for _, x := range stamps() {
		quotient := new(big.Rat).SetFloat64(nearest(big.NewRat(int64(x.Nano), 1e9)))
		want := nearest(quotient.Add(quotient, new(big.Rat).SetInt64(int64(x.Sec))))
		if f := Float(x); f != want {
			t.Errorf("2.2: Float(%v) = %v; want %v", x, f, want)
		}
	}
}

func TestFromFloatOfFloat(t *testing.T) {
	check := func(sec int) {
		x := api.Stamp{Sec: sec}
		if back, ok := FromFloat(Float(x)); back != x || !ok {
			t.Errorf("2.3: FromFloat(Float(%v)) = %v, %v", x, back, ok)
		}
	}
	for _, sec := range secs() {
		check(sec)
	}
	for sec := -100000; sec <= 100000; sec++ {
		check(sec)
	}
	for bit := range 40 {
		for d := -3; d <= 3; d++ {
			check(1<<bit + d)
			check(-1<<bit + d)
		}
	}
}

// Nothing is promised of what Stamps that aren't valid become, but that the calls end.
func TestStampsThatAreNotValid(t *testing.T) {
	for _, sec := range []int{0, -1, maxSec + 1, -maxSec - 1, math.MaxInt, math.MinInt, math.MinInt + 1} {
		for _, nano := range []int{0, -1, -1e9, -1e9 - 1, 1e9, math.MaxInt, math.MinInt, math.MinInt + 1} {
			x := api.Stamp{Sec: sec, Nano: nano}
			Text(x)
			Float(x)
			Cmp(x, api.Stamp{})
		}
	}
}

func FuzzParse(f *testing.F) {
	for _, s := range []string{"0", "-1.5", "1.50", "01", "-0", "1099511627776.999999999", "-1099511627776.5", "18446744073709551617"} {
		f.Add(s)
	}
	f.Fuzz(func(t *testing.T, s string) {
		want, ok := wantParse(s)
		parsesAs(t, s, want, ok)
	})
}

func FuzzFromFloat(f *testing.F) {
	for _, x := range []float64{0, -1e-20, 1.5, -1.5, 0.999999999, maxSec, math.NaN(), math.Inf(1)} {
		f.Add(x)
	}
	f.Fuzz(func(t *testing.T, x float64) {
		want, ok := wantFromFloat(x)
		floatsAs(t, x, want, ok)
	})
}
