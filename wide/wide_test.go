package wide_test

import (
	"math/big"
	"slices"
	"strings"
	"testing"

	"heliograph/api"
	"heliograph/wide"
)

const (
	leastSmall    = -1 << 63
	greatestSmall = 1<<63 - 1
	greatestLow   = 1<<64 - 1
)

var (
	zero     = api.Wide{}
	least    = api.Wide{Hi: leastSmall}
	greatest = api.Wide{Hi: greatestSmall, Lo: greatestLow}
)

const (
	leastText    = "-170141183460469231731687303715884105728"
	greatestText = "170141183460469231731687303715884105727"
)

// power is 2^n.
func power(n uint) *big.Int {
	return new(big.Int).Lsh(big.NewInt(1), n)
}

// value is the number that a stands for, as the chapter's words define it.
func value(a api.Wide) *big.Int {
	v := new(big.Int).Mul(big.NewInt(a.Hi), power(64))
	return v.Add(v, new(big.Int).SetUint64(a.Lo))
}

// among is the Wide of v modulo 2^128.
func among(v *big.Int) api.Wide {
	hi, lo := new(big.Int).DivMod(v, power(64), new(big.Int))
	hi.Mod(hi, power(64))
	return api.Wide{Hi: int64(hi.Uint64()), Lo: lo.Uint64()}
}

// edges are the numbers beside which something changes.
func edges() []api.Wide {
	var l []api.Wide
	for _, hi := range []int64{0, -1, 1, leastSmall, greatestSmall} {
		for _, lo := range []uint64{0, 1, 2, 1<<63 - 1, 1 << 63, 1<<63 + 1, greatestLow - 1, greatestLow} {
			l = append(l, api.Wide{Hi: hi, Lo: lo})
		}
	}
	return l
}

// numbers are the edges, ordinary numbers of either sign, powers of ten and those beside them, multiples of 2^64 with some more digits behind them, and some that look random.
func numbers() []api.Wide {
	l := edges()
	for _, n := range []int64{7, -7, 10, 99, -100, 300, 1<<32 - 1, 1 << 32, 123456789, -987654321012345678} {
		l = append(l, wide.Of(n))
	}
	ten := big.NewInt(1)
	for range 39 {
		for d := range int64(3) {
			v := new(big.Int).Add(ten, big.NewInt(d-1))
			l = append(l, among(v), among(v.Neg(v)))
		}
		ten = new(big.Int).Mul(ten, big.NewInt(10))
	}
	for hi := int64(10); hi <= 1e18; hi *= 10 {
		l = append(l, api.Wide{Hi: hi}, api.Wide{Hi: -hi}, api.Wide{Hi: hi, Lo: 9}, api.Wide{Hi: 9 * (hi / 10), Lo: uint64(hi - 1)})
	}
	seed := uint64(1)
	next := func() uint64 {
		seed = seed*6364136223846793005 + 1442695040888963407
		return seed ^ seed>>33
	}
	for i := range 100 {
		l = append(l, api.Wide{Hi: int64(next()) >> (i % 64), Lo: next()})
	}
	return l
}

// is tells a number that is not the one wanted.
func is(t *testing.T, what string, got, want api.Wide) {
	t.Helper()
	if got != want {
		t.Errorf("%s is %v, want %v", what, got, want)
	}
}

// P2.1: Of.
func TestOf(t *testing.T) {
	known := []struct {
		n    int64
		want api.Wide
	}{
		{0, zero},
		{1, api.Wide{Lo: 1}},
		{-1, api.Wide{Hi: -1, Lo: greatestLow}},
		{-2, api.Wide{Hi: -1, Lo: greatestLow - 1}},
		{greatestSmall, api.Wide{Lo: 1<<63 - 1}},
		{greatestSmall - 1, api.Wide{Lo: 1<<63 - 2}},
		{leastSmall, api.Wide{Hi: -1, Lo: 1 << 63}},
		{leastSmall + 1, api.Wide{Hi: -1, Lo: 1<<63 + 1}},
		{1234567890123, api.Wide{Lo: 1234567890123}},
	}
	for _, k := range known {
		is(t, "Of "+big.NewInt(k.n).String(), wide.Of(k.n), k.want)
	}
	for _, a := range numbers() {
		n := int64(a.Lo)
		is(t, "Of "+big.NewInt(n).String(), wide.Of(n), among(big.NewInt(n)))
	}
}

// P2.1: Add, Sub and Cmp of each number and each other one; P2.3 with them.
func TestPairs(t *testing.T) {
	l := numbers()
	for _, a := range l {
		for _, b := range l {
			va, vb := value(a), value(b)
			is(t, "Add of "+va.String()+" and "+vb.String(), wide.Add(a, b), among(new(big.Int).Add(va, vb)))
			is(t, "Sub of "+va.String()+" and "+vb.String(), wide.Sub(a, b), among(new(big.Int).Sub(va, vb)))
			is(t, "(a - b) + b of "+va.String()+" and "+vb.String(), wide.Add(wide.Sub(a, b), b), a)
			is(t, "b + a of "+va.String()+" and "+vb.String(), wide.Add(b, a), wide.Add(a, b))
			if got, want := sign(wide.Cmp(a, b)), va.Cmp(vb); got != want {
				t.Errorf("Cmp of %v and %v is %d, want %d", va, vb, got, want)
			}
		}
		if t.Failed() {
			return
		}
	}
}

// sign is -1, 0 or 1: that is all that the chapter says of what Cmp answers.
func sign(n int) int {
	return min(max(n, -1), 1)
}

// P2.1: sums and differences that run over, between the halves and out of range.
func TestAddAndSubRunOver(t *testing.T) {
	is(t, "2^63 - 1 and 1", wide.Add(wide.Of(greatestSmall), wide.Of(1)), api.Wide{Lo: 1 << 63})
	is(t, "2^64 - 1 and 1", wide.Add(api.Wide{Lo: greatestLow}, wide.Of(1)), api.Wide{Hi: 1})
	is(t, "2^64 less 1", wide.Sub(api.Wide{Hi: 1}, wide.Of(1)), api.Wide{Lo: greatestLow})
	is(t, "-1 and 1", wide.Add(wide.Of(-1), wide.Of(1)), zero)
	is(t, "0 less 1", wide.Sub(zero, wide.Of(1)), wide.Of(-1))
	is(t, "-2^63 less 1", wide.Sub(wide.Of(leastSmall), wide.Of(1)), api.Wide{Hi: -1, Lo: 1<<63 - 1})
	is(t, "the greatest and 1", wide.Add(greatest, wide.Of(1)), least)
	is(t, "the least less 1", wide.Sub(least, wide.Of(1)), greatest)
	is(t, "the least twice", wide.Add(least, least), zero)
	is(t, "the greatest twice", wide.Add(greatest, greatest), wide.Of(-2))
	is(t, "the greatest less the least", wide.Sub(greatest, least), wide.Of(-1))
	is(t, "0 less the least", wide.Sub(zero, least), least)
}

// P2.1: Neg.
func TestNeg(t *testing.T) {
	is(t, "Neg of 0", wide.Neg(zero), zero)
	is(t, "Neg of 1", wide.Neg(wide.Of(1)), wide.Of(-1))
	is(t, "Neg of -1", wide.Neg(wide.Of(-1)), wide.Of(1))
	is(t, "Neg of the least int64", wide.Neg(wide.Of(leastSmall)), api.Wide{Lo: 1 << 63})
	is(t, "Neg of 2^64", wide.Neg(api.Wide{Hi: 1}), api.Wide{Hi: -1})
	is(t, "Neg of the greatest", wide.Neg(greatest), api.Wide{Hi: leastSmall, Lo: 1})
	is(t, "Neg of the least", wide.Neg(least), least)
	for _, a := range numbers() {
		is(t, "Neg of "+value(a).String(), wide.Neg(a), among(new(big.Int).Neg(value(a))))
		is(t, "Neg of Neg of "+value(a).String(), wide.Neg(wide.Neg(a)), a)
	}
}

// P2.1: Times, also where the product runs over.
func TestTimes(t *testing.T) {
	is(t, "-3 times 7", wide.Times(wide.Of(-3), 7), wide.Of(-21))
	is(t, "2^63 twice", wide.Times(api.Wide{Lo: 1 << 63}, 2), api.Wide{Hi: 1})
	is(t, "the least twice", wide.Times(least, 2), zero)
	is(t, "the least thrice", wide.Times(least, 3), least)
	is(t, "the greatest twice", wide.Times(greatest, 2), wide.Of(-2))
	is(t, "-1 times the greatest factor", wide.Times(wide.Of(-1), 1<<32-1), wide.Of(-(1<<32 - 1)))
	for _, a := range numbers() {
		for _, n := range []uint32{0, 1, 2, 3, 10, 60, 1 << 16, 123456789, 1<<31 - 1, 1 << 31, 1<<31 + 1, 1<<32 - 2, 1<<32 - 1} {
			v := big.NewInt(int64(n))
			is(t, value(a).String()+" times "+v.String(), wide.Times(a, n), among(v.Mul(v, value(a))))
		}
		is(t, value(a).String()+" times 0", wide.Times(a, 0), zero)
		is(t, value(a).String()+" times 1", wide.Times(a, 1), a)
	}
}

// P2.1: Cmp, as the order of the edges.
func TestCmp(t *testing.T) {
	rising := []api.Wide{
		least, {Hi: leastSmall, Lo: 1}, {Hi: -2, Lo: greatestLow}, {Hi: -1}, wide.Of(leastSmall), wide.Of(-2), wide.Of(-1),
		zero, wide.Of(1), wide.Of(greatestSmall), {Lo: 1 << 63}, {Lo: greatestLow}, {Hi: 1}, {Hi: greatestSmall}, greatest,
	}
	for i, a := range rising {
		for j, b := range rising {
			if got, want := sign(wide.Cmp(a, b)), sign(i-j); got != want {
				t.Errorf("Cmp of %v and %v is %d, want %d", a, b, got, want)
			}
		}
	}
}

// P2.1: Small.
func TestSmall(t *testing.T) {
	for _, n := range []int64{0, 1, -1, -5, greatestSmall, greatestSmall - 1, leastSmall, leastSmall + 1} {
		if got, ok := wide.Small(wide.Of(n)); got != n || !ok {
			t.Errorf("Small of %d is %d, %v", n, got, ok)
		}
	}
	for _, a := range []api.Wide{{Lo: 1 << 63}, {Lo: greatestLow}, {Hi: 1}, {Hi: 1, Lo: 5}, {Hi: -1}, {Hi: -1, Lo: 1<<63 - 1}, {Hi: -2, Lo: greatestLow}, least, greatest} {
		if got, ok := wide.Small(a); got != 0 || ok {
			t.Errorf("Small of %v is %d, %v, want 0, false", a, got, ok)
		}
	}
	for _, a := range numbers() {
		n, fits := int64(0), value(a).IsInt64()
		if fits {
			n = value(a).Int64()
		}
		if got, ok := wide.Small(a); got != n || ok != fits {
			t.Errorf("Small of %v is %d, %v, want %d, %v", a, got, ok, n, fits)
		}
	}
}

// P2.2: Text.
func TestText(t *testing.T) {
	known := []struct {
		a    api.Wide
		want string
	}{
		{zero, "0"},
		{wide.Neg(zero), "0"},
		{wide.Of(1), "1"},
		{wide.Of(-1), "-1"},
		{wide.Of(9), "9"},
		{wide.Of(10), "10"},
		{wide.Of(-1000), "-1000"},
		{wide.Of(leastSmall), "-9223372036854775808"},
		{wide.Add(wide.Of(greatestSmall), wide.Of(1)), "9223372036854775808"},
		{api.Wide{Lo: greatestLow}, "18446744073709551615"},
		{api.Wide{Hi: 1}, "18446744073709551616"},
		{api.Wide{Hi: -1}, "-18446744073709551616"},
		{greatest, greatestText},
		{least, leastText},
	}
	for _, k := range known {
		if got := wide.Text(k.a); got != k.want {
			t.Errorf("Text of %v is %q, want %q", k.a, got, k.want)
		}
	}
	for _, a := range numbers() {
		if got, want := wide.Text(a), value(a).String(); got != want {
			t.Errorf("Text of %v is %q, want %q", a, got, want)
		}
	}
}

// P2.2 and P2.3: Parse of Text is the number.
func TestParseOfText(t *testing.T) {
	for _, a := range numbers() {
		if got, e := wide.Parse(value(a).String()); got != a || e != api.OK {
			t.Errorf("Parse of %v is %v, %v, want %v", value(a), got, e, a)
		}
		if got, e := wide.Parse(wide.Text(a)); got != a || e != api.OK {
			t.Errorf("Parse of Text of %v is %v, %v", a, got, e)
		}
	}
}

// refused tells a text that Parse takes, or turns away with another error or with a number beside it.
func refused(t *testing.T, s string, want api.Errno) {
	t.Helper()
	if got, e := wide.Parse(s); got != zero || e != want {
		t.Errorf("Parse of %.60q (%d bytes) is %v, %d, want %d", s, len(s), got, int(e), int(want))
	}
}

// P2.2: what is no number's text.
func TestParseOfWhatIsNoText(t *testing.T) {
	for _, s := range []string{
		"", "-", "+", "--", "+1", "+0", "--1", "-+1", "1-", "1-1", "-0", "--0", "00", "01", "-01", "007", "-00",
		" ", " 1", "1 ", "- 1", "1 2", "1\n", "\t1", "1\x00", "\x00", "x", "12x", "x12", "1x2", "-x", "0x10", "1e3", "1.0", "1,000", "1_000",
		"/", ":", "1/", "1:", "-/1", "-:1", "\xff", "1\xff", "−1", "١", "1²",
	} {
		refused(t, s, api.ErrForm)
	}
	for c := range 256 {
		if c >= '0' && c <= '9' {
			continue
		}
		b := string([]byte{byte(c)})
		refused(t, b, api.ErrForm)
		refused(t, "-"+b, api.ErrForm)
		refused(t, "12"+b, api.ErrForm)
		refused(t, "1"+b+"2", api.ErrForm)
		refused(t, greatestText+b, api.ErrForm)
		if c != '-' {
			refused(t, b+"12", api.ErrForm)
		}
	}
}

// P2.2: numbers out of range, by one and by far, also those that come back into range modulo 2^128.
func TestParseOutOfRange(t *testing.T) {
	one := big.NewInt(1)
	over := new(big.Int).Add(value(greatest), one)
	for range 3 {
		refused(t, over.String(), api.ErrSize)
		over.Add(over, one)
	}
	under := new(big.Int).Sub(value(least), one)
	for range 3 {
		refused(t, under.String(), api.ErrSize)
		under.Sub(under, one)
	}
	for n := uint(128); n < 300; n++ {
		for d := range int64(3) {
			v := new(big.Int).Add(power(n), big.NewInt(d-1))
			refused(t, v.String(), api.ErrSize)
			refused(t, "-"+v.String(), api.ErrSize)
		}
	}
	for _, n := range []int{39, 40, 41, 128, 129, 1000, 1 << 20} {
		refused(t, "1"+strings.Repeat("0", n), api.ErrSize)
		refused(t, "-1"+strings.Repeat("0", n), api.ErrSize)
		refused(t, strings.Repeat("9", n), api.ErrSize)
		refused(t, greatestText+strings.Repeat("0", n), api.ErrSize)
	}
}

// P2.2: what is no text and out of range as well is no text.
func TestParseTellsTheFormFirst(t *testing.T) {
	far := strings.Repeat("9", 60)
	for _, s := range []string{far + "x", "x" + far, "0" + far, "-0" + far, "+" + far, far + " ", "--" + far, far + "-", strings.Repeat("0", 1<<20)} {
		refused(t, s, api.ErrForm)
	}
	refused(t, "0"+greatestText, api.ErrForm)
}

// P2.2: Bytes.
func TestBytes(t *testing.T) {
	known := []struct {
		a    api.Wide
		want string
	}{
		{zero, strings.Repeat("\x00", 16)},
		{wide.Of(1), strings.Repeat("\x00", 15) + "\x01"},
		{wide.Of(-1), strings.Repeat("\xff", 16)},
		{wide.Of(-2), strings.Repeat("\xff", 15) + "\xfe"},
		{greatest, "\x7f" + strings.Repeat("\xff", 15)},
		{least, "\x80" + strings.Repeat("\x00", 15)},
		{api.Wide{Hi: 0x0102030405060708, Lo: 0x090a0b0c0d0e0f10}, "\x01\x02\x03\x04\x05\x06\x07\x08\x09\x0a\x0b\x0c\x0d\x0e\x0f\x10"},
	}
	for _, k := range known {
		if got := wide.Bytes(k.a); got != k.want {
			t.Errorf("Bytes of %v are % x, want % x", k.a, got, k.want)
		}
	}
	for _, a := range numbers() {
		v := value(a)
		if v.Sign() < 0 {
			v.Add(v, power(128))
		}
		want := string(v.FillBytes(make([]byte, 16)))
		if got := wide.Bytes(a); got != want {
			t.Errorf("Bytes of %v are % x, want % x", a, got, want)
		}
	}
}

// P2.2 and P2.3: Read of Bytes is the number, and each 16 bytes are some number's.
func TestReadOfBytes(t *testing.T) {
	for _, a := range numbers() {
		s := wide.Bytes(a)
		if got, e := wide.Read(s); got != a || e != api.OK {
			t.Errorf("Read of Bytes of %v is %v, %v", a, got, e)
		}
	}
	for at := range 16 {
		for c := range 256 {
			b := []byte("0123456789abcdef")
			b[at] = byte(c)
			a, e := wide.Read(string(b))
			if e != api.OK || wide.Bytes(a) != string(b) {
				t.Errorf("Read of %q is %v, %v", b, a, e)
			}
		}
	}
}

// P2.2: more or fewer than 16 bytes.
func TestReadOfWrongLengths(t *testing.T) {
	for _, n := range []int{0, 1, 8, 14, 15, 17, 18, 24, 32, 1 << 20} {
		for _, c := range []string{"\x00", "\x01", "\xff"} {
			if got, e := wide.Read(strings.Repeat(c, n)); got != zero || e != api.ErrForm {
				t.Errorf("Read of %d bytes is %v, %v, want ErrForm", n, got, e)
			}
		}
	}
}

// P2.3: sums do not depend on the order of their terms, even where they run over on the way.
func TestOrderOfTerms(t *testing.T) {
	total := func(l []api.Wide) api.Wide {
		sum := zero
		for _, a := range l {
			sum = wide.Add(sum, a)
		}
		return sum
	}
	l := numbers()
	exact := new(big.Int)
	for _, a := range l {
		exact.Add(exact, value(a))
	}
	want := among(exact)
	is(t, "the sum of all", total(l), want)
	for turn := range len(l) {
		turned := slices.Concat(l[turn:], l[:turn])
		is(t, "the sum from another one on", total(turned), want)
		slices.Reverse(turned)
		is(t, "the sum backwards", total(turned), want)
	}
	slices.SortFunc(l, wide.Cmp)
	is(t, "the sum of all in order", total(l), want)
	e := edges()
	for _, a := range e {
		for _, b := range e {
			for _, c := range e {
				is(t, "a sum of three", wide.Add(wide.Add(a, b), c), wide.Add(a, wide.Add(b, c)))
			}
		}
	}
}

// P2.3: a number and its negative cancel out, and a product is a sum of equal terms.
func TestArithmeticFitsTogether(t *testing.T) {
	for _, a := range numbers() {
		is(t, "a + -a", wide.Add(a, wide.Neg(a)), zero)
		is(t, "a - a", wide.Sub(a, a), zero)
		sum := zero
		for n := range uint32(20) {
			is(t, "a product", wide.Times(a, n), sum)
			sum = wide.Add(sum, a)
		}
	}
}
