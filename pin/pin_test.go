package pin_test

import (
	"bytes"
	libaes "crypto/aes"
	"encoding/hex"
	"errors"
	"fmt"
	"math"
	"math/rand"
	"slices"
	"strings"
	"testing"

	"lockbox/api"
	"lockbox/block"
	"lockbox/pin"
	"lockbox/tape"
)

// someone is the account of the chapter's example.
const someone = "5432101234567891"

// counting is a fill that has each digit once, in their order.
var counting = [8]byte{0x01, 0x23, 0x45, 0x67, 0x89, 0xab, 0xcd, 0xef}

func unhex(t *testing.T, text string) []byte {
	t.Helper()
	b, err := hex.DecodeString(text)
	if err != nil {
		t.Fatal(err)
	}
	return b
}

func eight(t *testing.T, text string) [8]byte { return [8]byte(unhex(t, text)) }

func filled(size int, with byte) []byte { return bytes.Repeat([]byte{with}, size) }

func seeded(size int, seed int64) []byte {
	all := make([]byte, size)
	rand.New(rand.NewSource(seed)).Read(all)
	return all
}

// number is size decimal digits.
func number(size int, seed int64) string {
	from := rand.New(rand.NewSource(seed))
	all := make([]byte, size)
	for i := range all {
		all[i] = '0' + byte(from.Intn(10))
	}
	return string(all)
}

// pins is PINs of each length: alike digits, and mixed ones.
func pins() []string {
	var all []string
	for size := 4; size <= 12; size++ {
		all = append(all, strings.Repeat("0", size), strings.Repeat("9", size), "123456789012"[:size], number(size, int64(size)))
	}
	return all
}

// pans is accounts of each length.
func pans() []string {
	var all []string
	for size := 13; size <= 19; size++ {
		all = append(all, strings.Repeat("0", size), strings.Repeat("9", size), number(size, int64(size)), number(size, int64(100+size)))
	}
	return append(all, someone)
}

// fills is fills of alike digits, of each digit once, and of mixed ones.
func fills(t *testing.T) [][8]byte {
	all := [][8]byte{{}, [8]byte(filled(8, 0xff)), [8]byte(filled(8, 0xaa)), counting, eight(t, "fedcba9876543210")}
	for seed := range int64(4) {
		all = append(all, [8]byte(seeded(8, seed)))
	}
	return all
}

func made(t *testing.T, kind int, key []byte, book *block.Book) *block.Cipher {
	t.Helper()
	c, err := block.New(kind, key, book)
	if err != nil {
		t.Fatal(err)
	}
	return c
}

// oracle is one with draws of its own, and its book.
func oracle(t *testing.T, draws []byte) (*block.Cipher, *block.Book) {
	t.Helper()
	laid, err := tape.New(draws)
	if err != nil {
		t.Fatal(err)
	}
	book := block.NewBook(laid)
	return made(t, api.Oracle, []byte("a key"), book), book
}

// The chapter's words once more, as rows of digits, with the library's AES.

// row is a format's sixteen digits ahead of any turning.
func row(format int, secret string, fill [8]byte) string {
	digits := fmt.Sprintf("%d%x%s", format, len(secret), secret)
	for i := 0; len(digits) < 16; i++ {
		of := hex.EncodeToString(fill[:])[i]
		digits += map[int]string{0: "f", 1: string(of), 3: string("abcdefabcdefabcd"[strings.IndexByte("0123456789abcdef", of)]), 4: "a"}[format]
	}
	return digits
}

// xored is two rows of digits, digit by digit.
func xored(a, b string) string {
	const digits = "0123456789abcdef"
	var all strings.Builder
	for i := range len(a) {
		all.WriteByte(digits[strings.IndexByte(digits, a[i])^strings.IndexByte(digits, b[i])])
	}
	return all.String()
}

// fieldOf is the account's field.
func fieldOf(pan string) string { return "0000" + pan[len(pan)-13:][:12] }

// turnedBy is a row of a format, turned by the account's field where it is so.
func turnedBy(format int, digits, pan string) string {
	if format == 1 {
		return digits
	}
	return xored(digits, fieldOf(pan))
}

// placeOf is the first place of a format's row that can't be, and -1 if it can be.
func placeOf(format int, digits string) int {
	if digits[:1] != fmt.Sprint(format) {
		return 0
	}
	size := strings.IndexByte("0123456789abcdef", digits[1])
	if size < 4 || size > 12 {
		return 1
	}
	up := map[int]string{0: "f", 1: "0123456789abcdef", 3: "abcdef", 4: "a"}[format]
	for i := 2; i < 16; i++ {
		may := up
		if i < 2+size {
			may = "0123456789"
		}
		if !strings.Contains(may, digits[i:i+1]) {
			return i
		}
	}
	return -1
}

// secretOf is the PIN in a row that can be.
func secretOf(digits string) string {
	return digits[2:][:strings.IndexByte("0123456789abcdef", digits[1])]
}

// wideOf is what format 4 is turned by.
func wideOf(pan string) string {
	digits := fmt.Sprint(len(pan)-12) + pan
	return digits + strings.Repeat("0", 32-len(digits))
}

// coded is a row of thirty-two digits, as format 4 enciphers it.
func coded(t *testing.T, key []byte, digits, pan string) []byte {
	t.Helper()
	c, err := libaes.NewCipher(key)
	if err != nil {
		t.Fatal(err)
	}
	once, all := make([]byte, 16), make([]byte, 16)
	c.Encrypt(once, unhex(t, digits))
	c.Encrypt(all, unhex(t, xored(hex.EncodeToString(once), wideOf(pan))))
	return all
}

// wantAlone wants an error that is a number without a place.
func wantAlone(t *testing.T, what string, err error, number api.Errno) {
	t.Helper()
	if !errors.Is(err, number) || api.Code(err) != int(number) || api.At(err) != -1 {
		t.Errorf("%s: the error is %v at %d, want %d alone", what, err, api.At(err), int(number))
	}
}

// wantFault wants a fault of a number at a place, and no other fault within it.
func wantFault(t *testing.T, what string, err error, number api.Errno, at int) {
	t.Helper()
	var f *api.Fault
	if !errors.As(err, &f) || f.At != at || !errors.Is(err, number) || api.Code(err) != int(number) || api.At(f.Err) != -1 {
		t.Errorf("%s: the error is %v at %d, want %d at %d", what, err, api.At(err), int(number), at)
	}
}

// numbered is one of the two calls on digits, and the lengths that it takes.
type numbered struct {
	name        string
	do          func(string) error
	least, most int
}

func both() []numbered {
	return []numbered{{"Right", pin.Right, 4, 12}, {"Account", pin.Account, 13, 19}}
}

// P14.1: nil of digits of a right length, ErrSize of others, whatever bytes they are.
func TestRightLengths(t *testing.T) {
	for _, x := range both() {
		for size := range 300 {
			for _, s := range []string{strings.Repeat("0", size), strings.Repeat("9", size), number(size, 1)} {
				err := x.do(s)
				if x.least <= size && size <= x.most {
					if err != nil {
						t.Errorf("%s(%q): %v", x.name, s, err)
					}
					continue
				}
				wantAlone(t, fmt.Sprintf("%s(%q)", x.name, s), err, api.ErrSize)
			}
			if size < x.least || size > x.most {
				what := fmt.Sprintf("%s of %d letters", x.name, size)
				wantAlone(t, what, x.do(strings.Repeat("x", size)), api.ErrSize)
			}
		}
	}
}

// P14.1: the first byte that is no decimal digit, whatever byte and wherever.
func TestRightDigits(t *testing.T) {
	for _, x := range both() {
		for size := x.least; size <= x.most; size++ {
			for at := range size {
				for c := range 256 {
					s := []byte(number(size, 2))
					s[at] = byte(c)
					what := fmt.Sprintf("%s(%q)", x.name, s)
					if '0' <= c && c <= '9' {
						if err := x.do(string(s)); err != nil {
							t.Errorf("%s: %v", what, err)
						}
						continue
					}
					wantFault(t, what, x.do(string(s)), api.ErrDigit, at)
					for i := range s[at:] {
						s[at+i] = byte(c)
						wantFault(t, what+" with more behind", x.do(string(s)), api.ErrDigit, at)
					}
				}
			}
		}
	}
	// Of letters with more than one byte the bytes are counted, and each is one that
	// is none.
	wantFault(t, "Right", pin.Right("12٣4"), api.ErrDigit, 2)
	wantAlone(t, "Right", pin.Right("1٣"), api.ErrSize)
}

// P14.2: the chapter's example, and blocks reckoned by hand.
func TestByHand(t *testing.T) {
	for _, x := range []struct {
		format            int
		secret, pan, fill string
		want              string
	}{
		// The chapter's example: its field is 0000 210123456789.
		{0, "1234", someone, "0000000000000000", "041215fedcba9876"},
		{0, "1234", someone, "ffffffffffffffff", "041215fedcba9876"},
		{1, "1234", someone, "0123456789abcdef", "1412340123456789"},
		{3, "1234", someone, "0123456789abcdef", "341215aaeeaacc44"},
		// The field is 0000 000000000000: only the digits ahead of the last one count.
		{0, "0000", "0000000000009", "0000000000000000", "040000ffffffffff"},
		{0, "9999", "9000000000000", "0000000000000000", "049909ffffffffff"},
		{0, "123456789012", "9999999999999999999", "0000000000000000", "0c12adcfe1098b66"},
		{0, "12345", "1234567890123", "0123456789abcdef", "0512266ba9876fed"},
		{1, "123456789012", someone, "f000000000000000", "1c123456789012f0"},
		{1, "98765", someone, "fedcba9876543210", "1598765fedcba987"},
		// A to F six times over: 0 to 5, 6 to 11, 12 to 15.
		{3, "0000", "0000000000000", "0123456789abcdef", "340000abcdefabcd"},
		{3, "0000", "0000000000000", "cdef000000000000", "340000abcdaaaaaa"},
		{3, "123456789012", "0000000000000", "5600000000000000", "3c123456789012fa"},
		{3, "7777", "1111111111111", "bbbbbbbbbbbbbbbb", "347766eeeeeeeeee"},
	} {
		got, err := pin.Make(x.format, x.secret, x.pan, eight(t, x.fill))
		if err != nil || hex.EncodeToString(got[:]) != x.want {
			t.Errorf("Make(%d, %s, %s, %s) is %x, %v; want %s", x.format, x.secret, x.pan, x.fill, got, err, x.want)
		}
		back, err := pin.Open(x.format, eight(t, x.want), x.pan)
		if err != nil || back != x.secret {
			t.Errorf("Open(%d, %s, %s) is %q, %v; want %s", x.format, x.want, x.pan, back, err, x.secret)
		}
	}
}

// P14.2, P14.4: the clear block of the chapter's words, and what is put in is read as
// it was: each format, length of PIN, length of account, and fill.
func TestMakeAndOpen(t *testing.T) {
	for _, format := range []int{0, 1, 3} {
		for _, secret := range pins() {
			for _, pan := range pans() {
				for _, fill := range fills(t) {
					got, err := pin.Make(format, secret, pan, fill)
					want := turnedBy(format, row(format, secret, fill), pan)
					if err != nil || hex.EncodeToString(got[:]) != want {
						t.Fatalf("Make(%d, %s, %s, %x) is %x, %v; want %s", format, secret, pan, fill, got, err, want)
					}
					back, err := pin.Open(format, got, pan)
					if err != nil || back != secret {
						t.Fatalf("Open(%d, %x, %s) is %q, %v; want %s", format, got, pan, back, err, secret)
					}
				}
			}
		}
	}
}

// P14.2: the account's last digit and those ahead of the last thirteen say nothing,
// each other one turns the block of the formats 0 and 3.
func TestAccountsDigits(t *testing.T) {
	const pan = "1234567890123456789"
	for _, format := range []int{0, 1, 3} {
		first, err := pin.Make(format, "4711", pan, counting)
		if err != nil {
			t.Fatal(err)
		}
		for at := range len(pan) {
			other := pan[:at] + string('0'+(pan[at]-'0'+1)%10) + pan[at+1:]
			got, err := pin.Make(format, "4711", other, counting)
			turns := format != 1 && at >= 6 && at < 18
			if err != nil || (got != first) != turns {
				t.Errorf("Make of format %d with another digit at %d: %x, %v beside %x", format, at, got, err, first)
			}
		}
	}
}

// otherFormats is numbers that no clear block has as its format.
func otherFormats() []int {
	all := []int{
		math.MinInt, math.MinInt32, math.MaxInt, math.MaxInt32, 255, 256, 257, 259, -255, -256, -253,
		1 << 16, 1<<16 + 1, 1<<16 + 3, 1 << 32, 1<<32 + 1, 1<<32 + 3, '0', '1', '3',
	}
	for format := -20; format <= 20; format++ {
		if format != 0 && format != 1 && format != 3 {
			all = append(all, format)
		}
	}
	return all
}

// wrongPins and wrongPans are refused with a number, alone or at a place.
type refused struct {
	s      string
	number api.Errno
	at     int
}

func wrongPins() []refused {
	return []refused{
		{"", api.ErrSize, -1}, {"123", api.ErrSize, -1}, {"1234567890123", api.ErrSize, -1}, {"xx", api.ErrSize, -1},
		{"x234", api.ErrDigit, 0}, {"123:", api.ErrDigit, 3}, {"12345678901/", api.ErrDigit, 11}, {"12A4B", api.ErrDigit, 2},
	}
}

func wrongPans() []refused {
	return []refused{
		{"", api.ErrSize, -1}, {"123456789012", api.ErrSize, -1}, {"12345678901234567890", api.ErrSize, -1}, {"x", api.ErrSize, -1},
		{"x234567890123", api.ErrDigit, 0}, {"123456789012x", api.ErrDigit, 12}, {"12345 789012345678x", api.ErrDigit, 5},
		{"A23456789012345", api.ErrDigit, 0}, {"1x34567890123456789", api.ErrDigit, 1}, {"123456789012345678\x00", api.ErrDigit, 18},
	}
}

func wantRefused(t *testing.T, what string, err error, x refused) {
	t.Helper()
	if x.at < 0 {
		wantAlone(t, what, err, x.number)
		return
	}
	wantFault(t, what, err, x.number, x.at)
}

// P14.2: ErrArg of another format, ahead of all else.
func TestOtherFormats(t *testing.T) {
	for _, format := range otherFormats() {
		for _, secret := range []string{"1234", "123", "12x4"} {
			for _, pan := range []string{someone, "1", someone[1:] + "x"} {
				what := fmt.Sprintf("format %d of %s, %s", format, secret, pan)
				b, err := pin.Make(format, secret, pan, counting)
				wantAlone(t, "Make, "+what, err, api.ErrArg)
				if b != [8]byte{} {
					t.Errorf("Make, %s: %x stands beside an error", what, b)
				}
				s, err := pin.Open(format, [8]byte{byte(format<<4) | 4, 0x12, 0x34, 0xff, 0xff, 0xff, 0xff, 0xff}, pan)
				wantAlone(t, "Open, "+what, err, api.ErrArg)
				if s != "" {
					t.Errorf("Open, %s: %q stands beside an error", what, s)
				}
			}
		}
	}
}

// P14.2: the errors of Right and then those of Account, of each format, of 1 too; and
// nothing beside them.
func TestMakeRefuses(t *testing.T) {
	for _, format := range []int{0, 1, 3} {
		for _, x := range wrongPins() {
			for _, pan := range []string{someone, "1", "x234567890123"} {
				got, err := pin.Make(format, x.s, pan, counting)
				wantRefused(t, fmt.Sprintf("Make(%d, %q, %q)", format, x.s, pan), err, x)
				if got != [8]byte{} {
					t.Errorf("%x stands beside an error", got)
				}
			}
		}
		for _, x := range wrongPans() {
			got, err := pin.Make(format, "1234", x.s, counting)
			wantRefused(t, fmt.Sprintf("Make(%d, 1234, %q)", format, x.s), err, x)
			if got != [8]byte{} {
				t.Errorf("%x stands beside an error", got)
			}
		}
	}
}

// P14.2: Open has the errors of Account, of each format, ahead of those of the block.
func TestOpenRefusesAccounts(t *testing.T) {
	for _, format := range []int{0, 1, 3} {
		for _, x := range wrongPans() {
			for _, b := range [][8]byte{{}, eight(t, "ffffffffffffffff"), eight(t, fmt.Sprintf("%d41234ffffffffff", format))} {
				got, err := pin.Open(format, b, x.s)
				wantRefused(t, fmt.Sprintf("Open(%d, %x, %q)", format, b, x.s), err, x)
				if got != "" {
					t.Errorf("%q stands beside an error", got)
				}
			}
		}
	}
}

// wantOpened wants what a row comes to in a format: its PIN, or its first place that
// can't be; and tells that place.
func wantOpened(t *testing.T, what string, format int, digits, got string, err error) int {
	t.Helper()
	at := placeOf(format, digits)
	if at >= 0 {
		wantFault(t, what, err, api.ErrForm, at)
		if got != "" {
			t.Errorf("%s: %q stands beside an error", what, got)
		}
		return at
	}
	if err != nil || got != secretOf(digits) {
		t.Errorf("%s is %q, %v; want %s", what, got, err, secretOf(digits))
	}
	return at
}

// spoilt is a row with each digit at each place, and with more wrong ones behind it.
func spoilt(digits string) []string {
	var all []string
	for at := range 16 {
		for _, d := range "0123456789abcdef" {
			one := digits[:at] + string(d) + digits[at+1:]
			all = append(all, one, one[:at+1]+strings.Repeat("b", 15-at), one[:at+1]+strings.Repeat("0", 15-at))
		}
	}
	return all
}

// P14.2: of a spoilt block the first digit that can't be: each place is met.
func TestOpenSpoilt(t *testing.T) {
	for _, format := range []int{0, 1, 3} {
		met := map[int]bool{}
		for _, secret := range pins() {
			for _, pan := range []string{someone, "0000000000000", "9999999999999999999"} {
				for _, digits := range spoilt(row(format, secret, counting)) {
					b := eight(t, turnedBy(format, digits, pan))
					got, err := pin.Open(format, b, pan)
					met[wantOpened(t, fmt.Sprintf("Open(%d, %x, %s)", format, b, pan), format, digits, got, err)] = true
				}
			}
		}
		// What fills format 1 up can be any digit, so that its last places are always right.
		last := map[int]int{0: 15, 1: 13, 3: 15}[format]
		for at := -1; at <= 15; at++ {
			if met[at] != (at <= last) {
				t.Errorf("format %d: a fault at %d met: %v", format, at, met[at])
			}
		}
	}
}

// P14.2: spoilt blocks once more, told one by one.
func TestOpenSpoiltByHand(t *testing.T) {
	const none = "0000000000000"
	for _, x := range []struct {
		format int
		digits string
		at     int
	}{
		{0, "141234ffffffffff", 0}, {0, "f00000ffffffffff", 0}, {1, "241234ffffffffff", 0}, {3, "041234ffffffffff", 0},
		{0, "001234ffffffffff", 1}, {0, "031234ffffffffff", 1}, {1, "1d12345678901212", 1}, {1, "1f12345678901212", 1}, {3, "3d12345678901234", 1},
		{0, "04a234ffffffffff", 2}, {0, "04f23affffffffff", 2}, {1, "141b340000000000", 3}, {3, "34123faaaaaaaaaa", 5},
		{0, "041234efffffffff", 6}, {0, "0412345fffffffff", 6}, {0, "041234fffffffffe", 15}, {0, "041234ffffff0fff", 12},
		{3, "3412349aaaaaaaaa", 6}, {3, "341234abcdefabc9", 15}, {3, "341234abcde0abc9", 11},
		{0, "0c1234567890120f", 14}, {0, "0c123456789012f0", 15}, {0, "0c12345678901aff", 13}, {1, "1c12345678901f00", 13}, {3, "3c1234567890129f", 14},
	} {
		got, err := pin.Open(x.format, eight(t, x.digits), none)
		wantFault(t, fmt.Sprintf("Open(%d, %s)", x.format, x.digits), err, api.ErrForm, x.at)
		if got != "" {
			t.Errorf("%q stands beside an error", got)
		}
	}
}

// P14.2: a block of one format, opened as another one, is refused at 0.
func TestOpenAnotherFormat(t *testing.T) {
	for _, of := range []int{0, 1, 3} {
		for _, as := range []int{0, 1, 3} {
			for _, secret := range pins() {
				b, err := pin.Make(of, secret, someone, counting)
				if err != nil {
					t.Fatal(err)
				}
				got, err := pin.Open(as, b, someone)
				if of == as {
					if err != nil || got != secret {
						t.Errorf("Open(%d, %x) is %q, %v", as, b, got, err)
					}
					continue
				}
				wantFault(t, fmt.Sprintf("a block of %d, opened as %d", of, as), err, api.ErrForm, 0)
			}
		}
	}
}

// P14.2: with another account a block of the formats 0 and 3 is another row of digits,
// one of the format 1 is not.
func TestOpenAnotherAccount(t *testing.T) {
	for _, format := range []int{0, 1, 3} {
		for _, secret := range pins() {
			for _, pan := range pans() {
				b, err := pin.Make(format, secret, someone, counting)
				if err != nil {
					t.Fatal(err)
				}
				got, err := pin.Open(format, b, pan)
				digits := turnedBy(format, hex.EncodeToString(b[:]), pan)
				wantOpened(t, fmt.Sprintf("Open(%d, %x, %s)", format, b, pan), format, digits, got, err)
			}
		}
	}
}

// P14.2: whatever eight bytes they are.
func TestOpenWhateverBytes(t *testing.T) {
	from := rand.New(rand.NewSource(4))
	for range 30000 {
		var b [8]byte
		from.Read(b[:])
		for _, format := range []int{0, 1, 3} {
			// A row that begins rightly is met more often so.
			if from.Intn(2) == 0 {
				b[0] = byte(format<<4 | from.Intn(16))
			}
			got, err := pin.Open(format, b, someone)
			digits := turnedBy(format, hex.EncodeToString(b[:]), someone)
			wantOpened(t, fmt.Sprintf("Open(%d, %x)", format, b), format, digits, got, err)
		}
	}
}

// aesKeys is keys of each size.
func aesKeys() [][]byte {
	return [][]byte{seeded(16, 16), seeded(24, 24), seeded(32, 32), filled(16, 0)}
}

// P14.3: rows reckoned by hand, enciphered by the library.
func TestFourByHand(t *testing.T) {
	key := []byte("0123456789abcdef")
	lib, err := libaes.NewCipher(key)
	if err != nil {
		t.Fatal(err)
	}
	c := made(t, api.AES, key, nil)
	for _, x := range []struct{ secret, pan, fill, clear, account string }{
		{"1234", someone, "0123456789abcdef", "441234aaaaaaaaaa0123456789abcdef", "45432101234567891000000000000000"},
		{"123456789012", "1234567890123", "ffffffffffffffff", "4c123456789012aaffffffffffffffff", "11234567890123000000000000000000"},
		{"98765", "9876543210987654321", "0000000000000000", "4598765aaaaaaaaa0000000000000000", "79876543210987654321000000000000"},
	} {
		once, want := make([]byte, 16), make([]byte, 16)
		lib.Encrypt(once, unhex(t, x.clear))
		for i, b := range unhex(t, x.account) {
			once[i] ^= b
		}
		lib.Encrypt(want, once)
		got, err := pin.Four(c, x.secret, x.pan, eight(t, x.fill))
		if err != nil || !bytes.Equal(got, want) {
			t.Errorf("Four(%s, %s, %s) is %x, %v; want %x", x.secret, x.pan, x.fill, got, err, want)
		}
		back, err := pin.OpenFour(c, want, x.pan)
		if err != nil || back != x.secret {
			t.Errorf("OpenFour(%x, %s) is %q, %v; want %s", want, x.pan, back, err, x.secret)
		}
	}
}

// P14.3, P14.4: with AES of each size the block of the chapter's words, and what is put
// in is read as it was: each length of PIN and of account.
func TestFourAndOpenFour(t *testing.T) {
	t.Parallel()
	for _, key := range aesKeys() {
		c := made(t, api.AES, key, nil)
		for i, secret := range pins() {
			for j, pan := range pans() {
				fill := fills(t)[(i+j)%9]
				got, err := pin.Four(c, secret, pan, fill)
				want := coded(t, key, row(4, secret, fill)+hex.EncodeToString(fill[:]), pan)
				if err != nil || !bytes.Equal(got, want) {
					t.Fatalf("Four(%s, %s, %x) is %x, %v; want %x", secret, pan, fill, got, err, want)
				}
				back, err := pin.OpenFour(c, got, pan)
				if err != nil || back != secret {
					t.Fatalf("OpenFour(%x, %s) is %q, %v; want %s", got, pan, back, err, secret)
				}
			}
		}
	}
}

// P14.3, P14.4: with the oracle, whatever it draws and however long its key is.
func TestFourOfTheOracle(t *testing.T) {
	for size := 1; size <= 32; size++ {
		laid, err := tape.New(seeded(8192, int64(size)))
		if err != nil {
			t.Fatal(err)
		}
		c := made(t, api.Oracle, seeded(size, int64(size)), block.NewBook(laid))
		for i, secret := range pins() {
			pan := pans()[i%len(pans())]
			fill := [8]byte(seeded(8, int64(i)))
			got, err := pin.Four(c, secret, pan, fill)
			if err != nil || len(got) != 16 {
				t.Fatalf("Four(%s, %s) is %x, %v", secret, pan, got, err)
			}
			back, err := pin.OpenFour(c, got, pan)
			if err != nil || back != secret {
				t.Fatalf("OpenFour(%x, %s) is %q, %v; want %s", got, pan, back, err, secret)
			}
		}
	}
}

// P14.3: the oracle is asked forth with the clear block, and with what that came to,
// turned by the account's digits; back with the block, and so on.
func TestFourAsksTheOracle(t *testing.T) {
	draws := seeded(32, 7)
	c, book := oracle(t, draws)
	got, err := pin.Four(c, "1234", someone, counting)
	if err != nil || !bytes.Equal(got, draws[16:]) || book.Rows() != 2 {
		t.Fatalf("Four is %x, %v, with %d rows", got, err, book.Rows())
	}
	for _, x := range [][2]string{
		{"441234aaaaaaaaaa0123456789abcdef", hex.EncodeToString(draws[:16])},
		{xored(hex.EncodeToString(draws[:16]), "45432101234567891000000000000000"), hex.EncodeToString(draws[16:])},
	} {
		to, err := c.Do(unhex(t, x[0]), false)
		if err != nil || hex.EncodeToString(to) != x[1] {
			t.Errorf("%s is enciphered to %x, %v; want %s", x[0], to, err, x[1])
		}
	}
	again, err := pin.Four(c, "1234", someone, counting)
	if err != nil || !bytes.Equal(again, got) || book.Rows() != 2 {
		t.Errorf("Four again is %x, %v, with %d rows", again, err, book.Rows())
	}

	// Deciphering draws what the block came of, and then the clear block.
	once := seeded(16, 8)
	clear := unhex(t, "461234569aaaaaaa0000000000000000")
	clear[4] = 0xaa
	c, book = oracle(t, slices.Concat(once, clear))
	s, err := pin.OpenFour(c, filled(16, 3), someone)
	if err != nil || s != "123456" || book.Rows() != 2 {
		t.Fatalf("OpenFour is %q, %v, with %d rows", s, err, book.Rows())
	}
	to, err := c.Do(clear, false)
	if want := xored(hex.EncodeToString(once), "45432101234567891000000000000000"); err != nil || hex.EncodeToString(to) != want {
		t.Errorf("the clear block is enciphered to %x, %v; want %s", to, err, want)
	}
}

// P14.3: where the oracle has no more draws, its own fault, with how many bytes were
// left: at the first question, and at the second one.
func TestFourWithoutDraws(t *testing.T) {
	for draws := range 32 {
		c, book := oracle(t, seeded(draws, 9))
		got, err := pin.Four(c, "1234", someone, counting)
		wantFault(t, fmt.Sprintf("Four with %d draws", draws), err, api.ErrTape, draws%16)
		if len(got) != 0 || book.Rows() != draws/16 {
			t.Errorf("%x stands beside an error, with %d rows", got, book.Rows())
		}
		c, book = oracle(t, seeded(draws, 9))
		s, err := pin.OpenFour(c, filled(16, 5), someone)
		wantFault(t, fmt.Sprintf("OpenFour with %d draws", draws), err, api.ErrTape, draws%16)
		if s != "" || book.Rows() != draws/16 {
			t.Errorf("%q stands beside an error, with %d rows", s, book.Rows())
		}
	}
}

// P14.3: ErrArg of a cipher of another block, ahead of all else.
func TestFourWithOtherCiphers(t *testing.T) {
	others := []*block.Cipher{{}}
	for _, size := range []int{8, 16, 24} {
		others = append(others, made(t, api.TDES, seeded(size, 1), nil))
	}
	for i, c := range others {
		for _, secret := range []string{"1234", "123", "x234"} {
			for _, pan := range []string{someone, "1", "x" + someone} {
				what := fmt.Sprintf("cipher %d, %s, %s", i, secret, pan)
				got, err := pin.Four(c, secret, pan, counting)
				wantAlone(t, "Four, "+what, err, api.ErrArg)
				if len(got) != 0 {
					t.Errorf("%x stands beside an error", got)
				}
				for _, size := range []int{0, 8, 15, 16, 17} {
					s, err := pin.OpenFour(c, seeded(size, 1), pan)
					wantAlone(t, "OpenFour, "+what, err, api.ErrArg)
					if s != "" {
						t.Errorf("%q stands beside an error", s)
					}
				}
			}
		}
	}
}

// P14.3: the errors of Right and then those of Account, ahead of the cipher's: nothing
// is drawn for them.
func TestFourRefuses(t *testing.T) {
	spent, _ := oracle(t, nil)
	for _, c := range []*block.Cipher{made(t, api.AES, seeded(16, 1), nil), spent} {
		for _, x := range wrongPins() {
			for _, pan := range []string{someone, "1", "x234567890123"} {
				got, err := pin.Four(c, x.s, pan, counting)
				wantRefused(t, fmt.Sprintf("Four(%q, %q)", x.s, pan), err, x)
				if len(got) != 0 {
					t.Errorf("%x stands beside an error", got)
				}
			}
		}
		for _, x := range wrongPans() {
			got, err := pin.Four(c, "1234", x.s, counting)
			wantRefused(t, fmt.Sprintf("Four(1234, %q)", x.s), err, x)
			if len(got) != 0 {
				t.Errorf("%x stands beside an error", got)
			}
		}
	}
	c, book := oracle(t, seeded(64, 1))
	pin.Four(c, "123", someone, counting)
	pin.Four(c, "1234", someone+"x", counting)
	pin.OpenFour(c, seeded(16, 1), someone+"x")
	pin.OpenFour(c, seeded(15, 1), someone)
	if book.Rows() != 0 {
		t.Errorf("the oracle has %d rows", book.Rows())
	}
}

// P14.3: the errors of Account, ahead of ErrSize of a block b, that ahead of the
// cipher's; ErrSize of each length but sixteen.
func TestOpenFourRefuses(t *testing.T) {
	spent, _ := oracle(t, nil)
	for _, c := range []*block.Cipher{made(t, api.AES, seeded(16, 1), nil), spent} {
		for size := range 34 {
			for _, x := range wrongPans() {
				got, err := pin.OpenFour(c, seeded(size, 1), x.s)
				wantRefused(t, fmt.Sprintf("OpenFour of %d bytes, %q", size, x.s), err, x)
				if got != "" {
					t.Errorf("%q stands beside an error", got)
				}
			}
			if size == 16 {
				continue
			}
			got, err := pin.OpenFour(c, seeded(size, 1), someone)
			wantAlone(t, fmt.Sprintf("OpenFour of %d bytes", size), err, api.ErrSize)
			if got != "" {
				t.Errorf("%q stands beside an error", got)
			}
		}
		got, err := pin.OpenFour(c, nil, someone)
		wantAlone(t, "OpenFour of no bytes", err, api.ErrSize)
		if got != "" {
			t.Errorf("%q stands beside an error", got)
		}
	}
}

// P14.3: of a spoilt clear block the first digit that can't be: each place is met;
// the fill's sixteen digits may be any.
func TestOpenFourSpoilt(t *testing.T) {
	t.Parallel()
	key := seeded(16, 5)
	c := made(t, api.AES, key, nil)
	met := map[int]bool{}
	for i, secret := range []string{"1234", "12345", "98765432", "123456789012", "00000000000"} {
		pan := pans()[5*i]
		for j, digits := range spoilt(row(4, secret, counting)) {
			fill := hex.EncodeToString(seeded(8, int64(j)))
			b := coded(t, key, digits+fill, pan)
			got, err := pin.OpenFour(c, b, pan)
			met[wantOpened(t, fmt.Sprintf("OpenFour of %s %s", digits, fill), 4, digits, got, err)] = true
		}
	}
	for at := -1; at <= 15; at++ {
		if !met[at] {
			t.Errorf("no fault at %d met", at)
		}
	}
	for _, x := range []struct {
		digits string
		at     int
	}{
		{"041234aaaaaaaaaa", 0}, {"341234aaaaaaaaaa", 0}, {"431234aaaaaaaaaa", 1}, {"4d1234567890123a", 1}, {"44a234aaaaaaaaaa", 2},
		{"44123aaaaaaaaaaa", 5}, {"441234faaaaaaaaa", 6}, {"441234baaaaaaaaa", 6}, {"441234aaaaaaaa9a", 14}, {"441234aaaaaaaaab", 15}, {"4c1234567890120a", 14},
	} {
		b := coded(t, key, x.digits+"ffffffffffffffff", someone)
		got, err := pin.OpenFour(c, b, someone)
		wantFault(t, "OpenFour of "+x.digits, err, api.ErrForm, x.at)
		if got != "" {
			t.Errorf("%q stands beside an error", got)
		}
	}
}

// P14.3: each bit of an enciphered block, and each of the account's digits, turns what
// is read.
func TestOpenFourChanged(t *testing.T) {
	key := seeded(24, 6)
	c := made(t, api.AES, key, nil)
	b, err := pin.Four(c, "271828", someone, counting)
	if err != nil {
		t.Fatal(err)
	}
	for bit := range 128 {
		other := bytes.Clone(b)
		other[bit/8] ^= 1 << (bit % 8)
		if got, err := pin.OpenFour(c, other, someone); err == nil {
			t.Errorf("OpenFour with the bit %d turned is %q", bit, got)
		}
	}
	for at := range len(someone) {
		other := someone[:at] + string('0'+(someone[at]-'0'+1)%10) + someone[at+1:]
		if got, err := pin.OpenFour(c, b, other); err == nil {
			t.Errorf("OpenFour with another digit at %d is %q", at, got)
		}
		again, err := pin.Four(c, "271828", other, counting)
		if err != nil || bytes.Equal(again, b) {
			t.Errorf("Four with another digit at %d is %x, %v", at, again, err)
		}
	}
	if got, err := pin.OpenFour(c, b, "0"+someone); err == nil {
		t.Errorf("OpenFour with a longer account is %q", got)
	}
}

// P14.5: what is handed in stays; what is answered is new memory.
func TestNewMemory(t *testing.T) {
	key := seeded(16, 5)
	c := made(t, api.AES, key, nil)
	asked, _ := oracle(t, seeded(640, 1))
	for _, c := range []*block.Cipher{c, asked} {
		fill := counting
		first, err := pin.Four(c, "1234", someone, fill)
		if err != nil || fill != counting {
			t.Fatalf("Four is %x, %v, the fill %x", first, err, fill)
		}
		kept := bytes.Clone(first)
		clear(first)
		_ = append(first, filled(64, 0xff)...)
		again, err := pin.Four(c, "1234", someone, fill)
		if err != nil || !bytes.Equal(again, kept) {
			t.Errorf("Four again is %x, %v; want %x", again, err, kept)
		}
		// What stands behind b in its memory is none of the call's either.
		whole := slices.Concat(again, filled(16, 0x77))
		s, err := pin.OpenFour(c, whole[:16], someone)
		if err != nil || s != "1234" || !bytes.Equal(whole, slices.Concat(kept, filled(16, 0x77))) {
			t.Errorf("OpenFour is %q, %v, and what was handed in %x", s, err, whole)
		}
		clear(whole)
		if s != "1234" {
			t.Errorf("what was answered became %q", s)
		}
	}
	fill := counting
	b, err := pin.Make(3, "1234", someone, fill)
	kept := b
	s, errBack := pin.Open(3, b, someone)
	if err != nil || errBack != nil || s != "1234" || b != kept || fill != counting {
		t.Errorf("Open is %q, %v, %v, and what was handed in %x", s, err, errBack, b)
	}
}

// P1: whatever is handed in, every call ends and none panics.
func TestWhateverIsHandedIn(t *testing.T) {
	t.Parallel()
	from := rand.New(rand.NewSource(11))
	text := func(digits int) string {
		s := []byte(number(from.Intn(digits), from.Int63()))
		if len(s) > 0 && from.Intn(3) == 0 {
			s[from.Intn(len(s))] = byte(from.Intn(256))
		}
		return string(s)
	}
	ciphers := []*block.Cipher{{}, made(t, api.AES, seeded(32, 1), nil), made(t, api.TDES, seeded(24, 1), nil)}
	asked, _ := oracle(t, seeded(4096, 1))
	ciphers = append(ciphers, asked)
	for range 5000 {
		format, secret, pan, fill := from.Intn(9)-2, text(16), text(24), [8]byte(seeded(8, from.Int63()))
		c := ciphers[from.Intn(len(ciphers))]
		b, errMake := pin.Make(format, secret, pan, fill)
		if (pin.Right(secret) != nil || pin.Account(pan) != nil) && (errMake == nil || b != [8]byte{}) {
			t.Errorf("Make(%d, %q, %q) is %x, %v", format, secret, pan, b, errMake)
		}
		if s, err := pin.Open(format, fill, pan); err == nil && pin.Right(s) != nil || err != nil && s != "" {
			t.Errorf("Open(%d, %x, %q) is %q, %v", format, fill, pan, s, err)
		}
		if got, err := pin.Four(c, secret, pan, fill); (err == nil) != (len(got) == 16) || err != nil && len(got) != 0 {
			t.Errorf("Four(%q, %q) is %x, %v", secret, pan, got, err)
		}
		if s, err := pin.OpenFour(c, seeded(from.Intn(20), from.Int63()), pan); err == nil && pin.Right(s) != nil || err != nil && s != "" {
			t.Errorf("OpenFour(%q) is %q, %v", pan, s, err)
		}
	}
}
