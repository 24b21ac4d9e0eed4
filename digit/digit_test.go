package digit_test

import (
	"bytes"
	"encoding/hex"
	"errors"
	"math/rand"
	"strconv"
	"strings"
	"testing"

	"lockbox/api"
	"lockbox/digit"
)

const (
	decimals = "0123456789"
	larges   = "0123456789ABCDEF"
	table    = "0123456789012345"
)

// others is the bytes that aren't among digits.
func others(digits string) []byte {
	var all []byte
	for c := range 256 {
		if strings.IndexByte(digits, byte(c)) < 0 {
			all = append(all, byte(c))
		}
	}
	return all
}

// strange is some bytes that are no digits: what stands just beside them, small
// letters, signs, blanks, and bytes beyond 127.
func strange(digits string) []byte {
	all := []byte("/:@Gaf`gxzOl +-._,\t\n\x00\x7f\x80\xb0\xb9\xc1\xd9\xff")
	if digits == decimals {
		all = append(all, "ABF"...)
	}
	return all
}

// drawn is n of the digits, drawn by chance.
func drawn(r *rand.Rand, digits string, n int) string {
	all := make([]byte, n)
	for i := range all {
		all[i] = digits[r.Intn(len(digits))]
	}
	return string(all)
}

// with is s with the byte at a place changed to c.
func with(s string, place int, c byte) string { return s[:place] + string([]byte{c}) + s[place+1:] }

// wantNumber wants an error that is a number without a place.
func wantNumber(t *testing.T, name string, err error, number api.Errno) {
	t.Helper()
	if !errors.Is(err, number) || api.Code(err) != int(number) || api.At(err) != -1 {
		t.Errorf("%s: the error is %v at %d, want %d alone", name, err, api.At(err), int(number))
	}
}

// wantFault wants a Fault of ErrDigit at a place, and none behind it.
func wantFault(t *testing.T, name string, err error, place int) {
	t.Helper()
	var fault, inner *api.Fault
	if !errors.As(err, &fault) || fault.At != place || errors.As(fault.Err, &inner) {
		t.Fatalf("%s: the error is %v at %d, want one fault at %d", name, err, api.At(err), place)
	}
	if !errors.Is(err, api.ErrDigit) || api.Code(err) != 16 {
		t.Errorf("%s: the error's number is %d, want 16", name, api.Code(err))
	}
}

// eachWrong does something with texts of digits in which one byte is none, at
// each place, and behind that place, where there is room, another one.
func eachWrong(digits string, lengths []int, do func(s string, place int)) {
	r := rand.New(rand.NewSource(8))
	for _, n := range lengths {
		for place := range n {
			for _, c := range strange(digits) {
				s := with(drawn(r, digits, n), place, c)
				do(s, place)
				if place < n-1 {
					do(with(s, place+1+r.Intn(n-place-1), 'x'), place)
				}
			}
		}
	}
}

// P8.1, ordinary inputs and published ones: the digits are large, the higher half
// first.
func TestHexIsDigits(t *testing.T) {
	for _, x := range []struct {
		b    []byte
		want string
	}{
		{nil, ""},
		{[]byte{}, ""},
		{[]byte{0}, "00"},
		{[]byte{0x0a}, "0A"},
		{[]byte{0xf0}, "F0"},
		{[]byte{0xde, 0xad, 0xbe, 0xef}, "DEADBEEF"},
		{[]byte("lockbox"), "6C6F636B626F78"},
	} {
		if got := digit.Hex(x.b); got != x.want {
			t.Errorf("Hex(%x) is %q, want %q", x.b, got, x.want)
		}
		if got, err := digit.Unhex(x.want); err != nil || !bytes.Equal(got, x.b) {
			t.Errorf("Unhex(%q) is %x, %v, want %x", x.want, got, err, x.b)
		}
	}
}

// P8.1, P8.4: each byte's two digits there and back, and each two digits' byte.
func TestEachByteThereAndBack(t *testing.T) {
	for i := range 256 {
		want := string([]byte{larges[i/16], larges[i%16]})
		if got := digit.Hex([]byte{byte(i)}); got != want {
			t.Errorf("Hex of %d is %q, want %q", i, got, want)
		}
		if got, err := digit.Unhex(want); err != nil || len(got) != 1 || got[0] != byte(i) {
			t.Errorf("Unhex(%q) is %v, %v, want %d", want, got, err, i)
		}
	}
}

// P8.4: Unhex undoes Hex, whatever the length; the library tells the same digits.
func TestUnhexUndoesHex(t *testing.T) {
	r := rand.New(rand.NewSource(1))
	for n := range 300 {
		b := make([]byte, n)
		r.Read(b)
		s := digit.Hex(b)
		if s != strings.ToUpper(hex.EncodeToString(b)) {
			t.Errorf("Hex(%x) is %q", b, s)
		}
		if got, err := digit.Unhex(s); err != nil || !bytes.Equal(got, b) {
			t.Errorf("Unhex(%q) is %x, %v, want %x", s, got, err, b)
		}
	}
}

// P8.1, wrong inputs: each byte that is no digit, at each place of a text of one
// digit, of an odd and an even number of them.
func TestUnhexOfNoDigits(t *testing.T) {
	for _, c := range others(larges) {
		for _, ahead := range []string{"", "0", "1F", "ABC"} {
			for _, behind := range []string{"", "7", "D9"} {
				got, err := digit.Unhex(ahead + string([]byte{c}) + behind)
				wantFault(t, ahead+"..."+behind, err, len(ahead))
				if len(got) != 0 {
					t.Errorf("%x stands beside an error", got)
				}
			}
		}
	}
	eachWrong(larges, []int{1, 2, 3, 16, 17}, func(s string, place int) {
		got, err := digit.Unhex(s)
		wantFault(t, strconv.Quote(s), err, place)
		if len(got) != 0 {
			t.Errorf("%x stands beside an error", got)
		}
	})
}

// P8.1: one digit too many.
func TestUnhexOfOneTooMany(t *testing.T) {
	for _, s := range []string{"0", "F", "000", "ABC", "12345", strings.Repeat("9", 1001)} {
		got, err := digit.Unhex(s)
		wantNumber(t, s, err, api.ErrSize)
		if len(got) != 0 {
			t.Errorf("%x stands beside an error", got)
		}
	}
}

// P8.1: a byte of a longer character is a byte like any other.
func TestPlacesAreBytes(t *testing.T) {
	for _, x := range []struct {
		s     string
		place int
	}{{"0é", 1}, {"é0", 0}, {"00\u00b2", 2}, {"12\uff13", 2}, {"1\xff", 1}} {
		_, err := digit.Unhex(x.s)
		wantFault(t, x.s, err, x.place)
		_, err = digit.Check(x.s)
		wantFault(t, x.s, err, x.place)
		if digit.Decimal(x.s) {
			t.Errorf("%q is decimal", x.s)
		}
	}
}

// P8.1: each byte alone, and at each place of a text of digits; of none: yes.
func TestDecimal(t *testing.T) {
	if !digit.Decimal("") {
		t.Error("none isn't decimal")
	}
	for c := range 256 {
		want := c >= '0' && c <= '9'
		if got := digit.Decimal(string([]byte{byte(c)})); got != want {
			t.Errorf("Decimal of the byte %d is %v, want %v", c, got, want)
		}
	}
	for n := range 20 {
		if s := drawn(rand.New(rand.NewSource(int64(n))), decimals, n); !digit.Decimal(s) {
			t.Errorf("%q isn't decimal", s)
		}
	}
	eachWrong(decimals, []int{1, 2, 3, 10, 19}, func(s string, _ int) {
		if digit.Decimal(s) {
			t.Errorf("%q is decimal", s)
		}
	})
}

// checked is the check digit by the chapter's words, one after the other.
func checked(s string) byte {
	sum, doubling := 0, true
	for i := len(s) - 1; i >= 0; i-- {
		n := int(s[i] - '0')
		if doubling {
			n *= 2
			if n > 9 {
				n -= 9
			}
		}
		sum += n
		doubling = !doubling
	}
	missing := 0
	for (sum+missing)%10 != 0 {
		missing++
	}
	return '0' + byte(missing)
}

// P8.2: the chapter's example, known accounts, none, and one digit by hand.
func TestCheckOfKnownNumbers(t *testing.T) {
	for _, x := range []struct {
		s    string
		want byte
	}{
		{"7992739871", '3'},
		{"", '0'},
		{"411111111111111", '1'},
		{"555555555555444", '4'},
		{"37828224631000", '5'},
		{"601111111111111", '7'},
		{"3056930902590", '4'},
		{"49015420323751", '8'},
		{"0", '0'}, {"1", '8'}, {"2", '6'}, {"3", '4'}, {"4", '2'},
		{"5", '9'}, {"6", '7'}, {"7", '5'}, {"8", '3'}, {"9", '1'},
		{"10", '9'}, {"90", '1'}, {"01", '8'}, {"18", '2'}, {"81", '0'}, {"99", '2'},
		{"0000000000000000", '0'},
	} {
		if got, err := digit.Check(x.s); err != nil || got != x.want {
			t.Errorf("Check(%q) is %q, %v, want %q", x.s, got, err, x.want)
		}
	}
}

// P8.2: against the words, of all texts up to four digits and of longer ones of
// odd and even length.
func TestCheckAgainstTheWords(t *testing.T) {
	try := func(s string) {
		t.Helper()
		if got, err := digit.Check(s); err != nil || got != checked(s) {
			t.Errorf("Check(%q) is %q, %v, want %q", s, got, err, checked(s))
		}
	}
	for n := range 10000 {
		s := strconv.Itoa(10000 + n)[1:]
		for from := range 4 {
			try(s[from:])
		}
	}
	r := rand.New(rand.NewSource(2))
	for n := range 200 {
		try(drawn(r, decimals, n))
	}
	try(strings.Repeat("9", 1<<20+1))
}

// P8.4: behind its check digit and a 0 each number has the check digit 0; with
// another digit than that it hasn't.
func TestCheckOfACheckedNumber(t *testing.T) {
	r := rand.New(rand.NewSource(3))
	for n := range 100 {
		s := drawn(r, decimals, n)
		own, err := digit.Check(s)
		if err != nil {
			t.Fatal(err)
		}
		for _, c := range []byte(decimals) {
			got, err := digit.Check(s + string([]byte{c}) + "0")
			if err != nil || (got == '0') != (c == own) {
				t.Errorf("%q, %q and 0 have the check digit %q, %v, where its own is %q", s, c, got, err, own)
			}
		}
	}
}

// P8.2, wrong inputs: hexadecimal digits above 9 are none here.
func TestCheckOfNoDigits(t *testing.T) {
	for _, c := range others(decimals) {
		got, err := digit.Check("12" + string([]byte{c}) + "4")
		wantFault(t, strconv.Itoa(int(c)), err, 2)
		if got != 0 {
			t.Errorf("%d stands beside an error", got)
		}
	}
	eachWrong(decimals, []int{1, 2, 3, 16, 19}, func(s string, place int) {
		got, err := digit.Check(s)
		wantFault(t, strconv.Quote(s), err, place)
		if got != 0 {
			t.Errorf("%d stands beside an error", got)
		}
	})
}

// P8.2: the chapter's example, none, and each digit by tables of all kinds.
func TestThrough(t *testing.T) {
	for _, x := range []struct{ s, table, want string }{
		{"1F", table, "15"},
		{"", table, ""},
		{larges, table, table},
		{larges, "9876543210987654", "9876543210987654"},
		{"FEDCBA9876543210", table, "5432109876543210"},
		{"0A9F", "7777777777777777", "7777"},
		{"A", "0000000000900000", "9"},
		{strings.Repeat("C", 1000), "0000000000003000", strings.Repeat("3", 1000)},
	} {
		if got, err := digit.Through(x.s, x.table); err != nil || got != x.want {
			t.Errorf("Through(%q, %q) is %q, %v, want %q", x.s, x.table, got, err, x.want)
		}
	}
	r := rand.New(rand.NewSource(4))
	for n := range 100 {
		by := drawn(r, decimals, 16)
		s := drawn(r, larges, n)
		got, err := digit.Through(s, by)
		if err != nil || len(got) != n {
			t.Fatalf("Through(%q, %q) is %q, %v", s, by, got, err)
		}
		for i := range s {
			if want := by[strings.IndexByte(larges, s[i])]; got[i] != want {
				t.Errorf("%q becomes %q by %q, want %q", s[i], got[i], by, want)
			}
		}
	}
}

// P8.2: a table of another length is told ahead of all else, wrong bytes in it
// and a wrong text too.
func TestThroughATableOfAnotherLength(t *testing.T) {
	for _, n := range []int{0, 1, 10, 15, 17, 32} {
		whole := strings.Repeat("12", 16)[:n]
		tables := []string{whole}
		if n > 0 {
			tables = append(tables, with(whole, 0, 'A'), with(whole, n-1, 0xff))
		}
		for _, by := range tables {
			for _, s := range []string{"", "0", "1F", "x", "0g", "\xff"} {
				got, err := digit.Through(s, by)
				wantNumber(t, strconv.Quote(by), err, api.ErrSize)
				if got != "" {
					t.Errorf("%q stands beside an error", got)
				}
			}
		}
	}
	// 16 digits, but 17 bytes; and 16 characters of more bytes.
	for _, by := range []string{table + " ", " " + table, "012345678901234é"} {
		_, err := digit.Through("0", by)
		wantNumber(t, by, err, api.ErrSize)
	}
}

// P8.2: a byte that isn't decimal at each place of the table, a hexadecimal digit
// among them, ahead of a text that is wrong too.
func TestThroughATableOfNoDigits(t *testing.T) {
	eachWrong(decimals, []int{16}, func(by string, place int) {
		for _, s := range []string{"", "0", larges, "g", "x0", "0\xff"} {
			got, err := digit.Through(s, by)
			wantFault(t, strconv.Quote(by), err, 16+place)
			if got != "" {
				t.Errorf("%q stands beside an error", got)
			}
		}
	})
}

// P8.2: the text's first byte that is no hexadecimal digit.
func TestThroughOfNoDigits(t *testing.T) {
	for _, c := range others(larges) {
		_, err := digit.Through("A"+string([]byte{c}), table)
		wantFault(t, strconv.Itoa(int(c)), err, 1)
	}
	eachWrong(larges, []int{1, 2, 3, 16, 33}, func(s string, place int) {
		got, err := digit.Through(s, table)
		wantFault(t, strconv.Quote(s), err, place)
		if got != "" {
			t.Errorf("%q stands beside an error", got)
		}
	})
}

// P8.3: none, unlike lengths, and one bit that differs at each place.
func TestEqual(t *testing.T) {
	if !digit.Equal(nil, nil) || !digit.Equal(nil, []byte{}) || !digit.Equal([]byte{}, nil) || !digit.Equal([]byte{}, []byte{}) {
		t.Error("none isn't none")
	}
	r := rand.New(rand.NewSource(5))
	for n := 1; n < 40; n++ {
		a := make([]byte, n)
		r.Read(a)
		b := bytes.Clone(a)
		if !digit.Equal(a, b) || !digit.Equal(a, a) {
			t.Errorf("%x isn't itself", a)
		}
		for i := range b {
			for bit := range 8 {
				b[i] ^= 1 << bit
				if digit.Equal(a, b) || digit.Equal(b, a) {
					t.Errorf("%x is %x", a, b)
				}
				b[i] ^= 1 << bit
			}
		}
	}
}

// P8.3: differences don't undo each other, and unlike lengths are unlike, zeros
// behind and pieces of each other among them.
func TestEqualOfUnlikes(t *testing.T) {
	for _, x := range [][2]string{
		{"", "a"}, {"a", ""}, {"", "\x00"}, {"a", "a\x00"}, {"a", "ab"}, {"ab", "b"}, {"aa", "a"},
		{"ab", "ba"}, {"\x01\x01", "\x00\x00"}, {"\x80\x80", "\x00\x00"}, {"\x01\xff", "\x02\xfe"},
		{"abc", "xyz"}, {"abcd", "Abcd"}, {"abcd", "abcD"}, {"abcd", "abCd"},
	} {
		if digit.Equal([]byte(x[0]), []byte(x[1])) || digit.Equal([]byte(x[1]), []byte(x[0])) {
			t.Errorf("%q is %q", x[0], x[1])
		}
	}
}

// P8.3, P8.4: all pairs of digits, there and back, alone and at both ends of a
// text.
func TestModOfAllPairs(t *testing.T) {
	for a := range 10 {
		for b := range 10 {
			one, other := strconv.Itoa(a), strconv.Itoa(b)
			sum, less := strconv.Itoa((a+b)%10), strconv.Itoa((a+10-b)%10)
			for _, x := range []struct {
				a, b string
				back bool
				want string
			}{
				{one, other, false, sum},
				{one, other, true, less},
				{sum, other, true, one},
				{less, other, false, one},
				{one + "90", other + "91", false, sum + "81"},
				{one + "90", other + "91", true, less + "09"},
				{"05" + one, "15" + other, false, "10" + sum},
				{"05" + one, "15" + other, true, "90" + less},
			} {
				if got, err := digit.Mod(x.a, x.b, x.back); err != nil || got != x.want {
					t.Errorf("Mod(%q, %q, %v) is %q, %v, want %q", x.a, x.b, x.back, got, err, x.want)
				}
			}
		}
	}
}

// P8.4: Mod back undoes Mod, and the other way round, whatever the length.
func TestModThereAndBack(t *testing.T) {
	r := rand.New(rand.NewSource(6))
	for n := range 100 {
		a, b := drawn(r, decimals, n), drawn(r, decimals, n)
		for _, back := range []bool{false, true} {
			there, err := digit.Mod(a, b, back)
			if err != nil || len(there) != n || !digit.Decimal(there) {
				t.Fatalf("Mod(%q, %q, %v) is %q, %v", a, b, back, there, err)
			}
			if got, err := digit.Mod(there, b, !back); err != nil || got != a {
				t.Errorf("Mod(%q, %q, %v) is %q, %v, want %q", there, b, !back, got, err, a)
			}
		}
	}
}

// P8.3: unlike lengths are told ahead of bytes that are no digits.
func TestModOfUnlikeLengths(t *testing.T) {
	for _, x := range [][2]string{{"", "1"}, {"12", "1"}, {"123", "1234"}, {"x", ""}, {"x2", "1"}, {"12", "x"}, {"xx", "yyy"}, {"é", "1"}} {
		for _, back := range []bool{false, true} {
			for _, pair := range [][2]string{x, {x[1], x[0]}} {
				got, err := digit.Mod(pair[0], pair[1], back)
				wantNumber(t, pair[0]+", "+pair[1], err, api.ErrSize)
				if got != "" {
					t.Errorf("%q stands beside an error", got)
				}
			}
		}
	}
}

// P8.3: a byte that is none in a, in b, and in both: then a's, wherever b's is.
func TestModOfNoDigits(t *testing.T) {
	want := func(a, b string, place int) {
		t.Helper()
		for _, back := range []bool{false, true} {
			got, err := digit.Mod(a, b, back)
			wantFault(t, strconv.Quote(a)+", "+strconv.Quote(b), err, place)
			if got != "" {
				t.Errorf("%q stands beside an error", got)
			}
		}
	}
	eachWrong(decimals, []int{1, 2, 3, 12}, func(s string, place int) {
		right := strings.Repeat("7", len(s))
		want(s, right, place)
		want(right, s, place)
		for other := range len(s) {
			want(s, with(right, other, 'A'), place)
		}
	})
}

// roomy is the bytes with others behind them, within their room.
func roomy(b []byte) []byte { return append(bytes.Clone(b), 0xee, 0xee)[:len(b)] }

// P8.5: what is handed in stays, and so does what stands behind it.
func TestHandedInStays(t *testing.T) {
	one, other := roomy([]byte{1, 2, 3, 4}), roomy([]byte{1, 2, 3, 5})
	digit.Hex(one)
	digit.Equal(one, other)
	digit.Equal(one, one)
	if !bytes.Equal(one[:6], []byte{1, 2, 3, 4, 0xee, 0xee}) || !bytes.Equal(other[:6], []byte{1, 2, 3, 5, 0xee, 0xee}) {
		t.Errorf("they are %x and %x now", one[:6], other[:6])
	}
}

// P8.5: bytes that are changed, once they were handed in or answered, change
// nothing of another answer.
func TestAnswersAreNew(t *testing.T) {
	b := []byte{0x12, 0xab}
	shown := digit.Hex(b)
	b[0], b[1] = 0xff, 0xff
	if shown != "12AB" {
		t.Errorf("the digits are %q now", shown)
	}
	first, err := digit.Unhex(shown)
	if err != nil {
		t.Fatal(err)
	}
	first[0], first[1] = 0, 0
	second, err := digit.Unhex(shown)
	if err != nil || shown != "12AB" || !bytes.Equal(second, []byte{0x12, 0xab}) {
		t.Errorf("the bytes of %q are %x, %v", shown, second, err)
	}
}
