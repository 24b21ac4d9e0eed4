package tape_test

import (
	"bytes"
	"errors"
	"math"
	"math/rand"
	"strconv"
	"testing"

	"lockbox/api"
	"lockbox/tape"
)

func laid(t *testing.T, b ...byte) *tape.Tape {
	t.Helper()
	x, err := tape.New(b)
	if err != nil || x == nil {
		t.Fatalf("no tape of %d bytes: %v", len(b), err)
	}
	return x
}

// seeded is bytes drawn from a seed, every fourth of them about 250.
func seeded(size int, seed int64) []byte {
	draws := rand.New(rand.NewSource(seed))
	all := make([]byte, size)
	for i := range all {
		all[i] = byte(draws.Intn(256))
		if draws.Intn(4) == 0 {
			all[i] = byte(247 + draws.Intn(9))
		}
	}
	return all
}

// digitsByWords is the first n digits of b and how many bytes they take; false
// if b ends ahead of them.
func digitsByWords(b []byte, n int) (string, int, bool) {
	text, used := "", 0
	for len(text) < n {
		if used == len(b) {
			return "", 0, false
		}
		if b[used] < 250 {
			text += strconv.Itoa(int(b[used]) % 10)
		}
		used++
	}
	return text, used, true
}

func wantLeft(t *testing.T, x *tape.Tape, left int) {
	t.Helper()
	if x.Left() != left {
		t.Errorf("%d bytes are left, want %d", x.Left(), left)
	}
}

func wantTake(t *testing.T, x *tape.Tape, want ...byte) {
	t.Helper()
	left := x.Left()
	got, err := x.Take(len(want))
	if err != nil || !bytes.Equal(got, want) {
		t.Errorf("Take(%d) is %v, %v, want %v", len(want), got, err, want)
	}
	wantLeft(t, x, left-len(want))
}

func wantDigits(t *testing.T, x *tape.Tape, want string, left int) {
	t.Helper()
	got, err := x.Digits(len(want))
	if err != nil || got != want {
		t.Errorf("Digits(%d) is %q, %v, want %q", len(want), got, err, want)
	}
	wantLeft(t, x, left)
}

func wantArg(t *testing.T, err error) {
	t.Helper()
	if !errors.Is(err, api.ErrArg) || api.Code(err) != 1 || api.At(err) != -1 {
		t.Errorf("the error is %v at %d, want ErrArg alone", err, api.At(err))
	}
}

func wantEnd(t *testing.T, err error, left int) {
	t.Helper()
	var fault *api.Fault
	if !errors.As(err, &fault) || fault.At != left || !errors.Is(err, api.ErrTape) || api.Code(err) != 13 {
		t.Errorf("the error is %v at %d, want a fault of ErrTape at %d", err, api.At(err), left)
	}
}

// wantNone draws n by both calls and wants neither to draw anything.
func wantNone(t *testing.T, x *tape.Tape, n int, want func(*testing.T, error)) {
	t.Helper()
	left := x.Left()
	b, err := x.Take(n)
	want(t, err)
	if len(b) != 0 {
		t.Errorf("Take(%d) is %v beside an error", n, b)
	}
	wantLeft(t, x, left)
	s, err := x.Digits(n)
	want(t, err)
	if s != "" {
		t.Errorf("Digits(%d) is %q beside an error", n, s)
	}
	wantLeft(t, x, left)
}

// P4.2, the chapter's example.
func TestExample(t *testing.T) {
	wantDigits(t, laid(t, 1, 255, 12), "12", 0)
}

// P4.1, tapes of no byte, of MaxTape bytes and of those between.
func TestNew(t *testing.T) {
	for _, size := range []int{0, 1, 2, 255, 256, 65535, 65536} {
		b := seeded(size, 1)
		x := laid(t, b...)
		wantLeft(t, x, size)
		wantTake(t, x, b...)
		wantLeft(t, x, 0)
	}
	none, err := tape.New(nil)
	if err != nil || none == nil {
		t.Fatalf("no tape of nil: %v", err)
	}
	wantLeft(t, none, 0)
}

// P4.1, bytes that are too many.
func TestNewTooLong(t *testing.T) {
	for _, size := range []int{api.MaxTape + 1, api.MaxTape + 2, 2 * api.MaxTape, 1 << 20} {
		x, err := tape.New(make([]byte, size))
		if x != nil || !errors.Is(err, api.ErrSize) || api.Code(err) != 2 || api.At(err) != -1 {
			t.Errorf("New of %d bytes is %v, %v at %d, want ErrSize alone", size, x, err, api.At(err))
		}
	}
	long := make([]byte, 10, 2*api.MaxTape)
	wantLeft(t, laid(t, long...), 10)
	if x, err := tape.New(long); err != nil || x.Left() != 10 {
		t.Errorf("a tape of 10 bytes with room behind them is %v, %v", x, err)
	}
}

// P4.2, draws of none, of some, of all that is left, and of one more.
func TestTake(t *testing.T) {
	x := laid(t, 5, 250, 255, 0, 9)
	wantTake(t, x)
	wantTake(t, x, 5)
	wantTake(t, x, 250, 255)
	wantNone(t, x, 3, func(t *testing.T, err error) { wantEnd(t, err, 2) })
	wantTake(t, x, 0, 9)
	wantTake(t, x)
	wantNone(t, x, 1, func(t *testing.T, err error) { wantEnd(t, err, 0) })
}

// P4.2, numbers below 0, on tapes with bytes and without.
func TestBelowNone(t *testing.T) {
	for _, x := range []*tape.Tape{laid(t), laid(t, 3), laid(t, seeded(100, 2)...)} {
		for _, n := range []int{-1, -2, -100, -65536, math.MinInt32, math.MinInt} {
			wantNone(t, x, n, wantArg)
		}
	}
}

// P4.2, numbers of which no memory could hold as many.
func TestVeryMany(t *testing.T) {
	for _, size := range []int{0, 1, 65535, 65536} {
		x := laid(t, seeded(size, 3)...)
		for _, n := range []int{size + 1, 65537, math.MaxInt32, math.MaxInt - 1, math.MaxInt} {
			wantNone(t, x, n, func(t *testing.T, err error) { wantEnd(t, err, size) })
		}
		if size > 0 {
			if _, err := x.Take(1); err != nil {
				t.Error(err)
			}
			for _, n := range []int{size, math.MaxInt - 1, math.MaxInt} {
				wantNone(t, x, n, func(t *testing.T, err error) { wantEnd(t, err, size-1) })
			}
		}
	}
}

// P4.2, each byte as a digit, or passed over.
func TestEachByte(t *testing.T) {
	for b := range 256 {
		x := laid(t, byte(b), 7)
		if b < 250 {
			wantDigits(t, x, strconv.Itoa(b%10), 1)
			wantTake(t, x, 7)
		} else {
			wantDigits(t, x, "7", 0)
		}
	}
}

// P4.2, bytes behind the last digit stay, though they make no digit.
func TestDigitsStopAtTheLast(t *testing.T) {
	x := laid(t, 250, 249, 255, 255, 30, 250)
	wantDigits(t, x, "", 6)
	wantDigits(t, x, "9", 4)
	wantTake(t, x, 255)
	wantDigits(t, x, "0", 1)
	wantDigits(t, x, "", 1)
	wantTake(t, x, 250)
}

// P4.2, tapes that end ahead of the last digit, of which nothing is drawn then.
func TestDigitsEnd(t *testing.T) {
	for _, b := range [][]byte{{250}, {255}, {1, 250}, {255, 1}, {1, 2, 251, 252, 253, 254}, {250, 250, 250}} {
		x := laid(t, b...)
		for n := 1; n <= len(b)+1; n++ {
			if _, _, ok := digitsByWords(b, n); ok {
				continue
			}
			got, err := x.Digits(n)
			wantEnd(t, err, len(b))
			if got != "" {
				t.Errorf("Digits(%d) of %v is %q beside an error", n, b, got)
			}
			wantLeft(t, x, len(b))
		}
		wantTake(t, x, b...)
	}
	x := laid(t, 9, 8, 7, 250, 250)
	wantTake(t, x, 9)
	_, err := x.Digits(3)
	wantEnd(t, err, 4)
	wantDigits(t, x, "87", 2)
	_, err = x.Digits(1)
	wantEnd(t, err, 2)
	wantTake(t, x, 250, 250)
}

// P4.2, all bytes of the longest tape as digits, and none of them.
func TestLongestTapes(t *testing.T) {
	all := bytes.Repeat([]byte{249}, api.MaxTape)
	wantDigits(t, laid(t, all...), string(bytes.Repeat([]byte{'9'}, api.MaxTape)), 0)
	none := bytes.Repeat([]byte{250}, api.MaxTape)
	x := laid(t, none...)
	_, err := x.Digits(1)
	wantEnd(t, err, api.MaxTape)
	wantTake(t, x, none...)
}

// P4.2 and P4.3, draws of both kinds in turn, held against the plain words.
func TestAgainstWords(t *testing.T) {
	draws := rand.New(rand.NewSource(4))
	for range 300 {
		b := seeded(draws.Intn(80), draws.Int63())
		x := laid(t, b...)
		for range 30 {
			n := draws.Intn(12)
			if draws.Intn(2) == 0 {
				text, used, ok := digitsByWords(b, n)
				got, err := x.Digits(n)
				if got != text || (err == nil) != ok {
					t.Fatalf("Digits(%d) of %v is %q, %v, want %q", n, b, got, err, text)
				}
				if !ok {
					wantEnd(t, err, len(b))
				}
				b = b[used:]
			} else if n > len(b) {
				got, err := x.Take(n)
				wantEnd(t, err, len(b))
				if len(got) != 0 {
					t.Fatalf("Take(%d) is %v beside an error", n, got)
				}
			} else {
				wantTake(t, x, b[:n]...)
				b = b[n:]
			}
			wantLeft(t, x, len(b))
		}
	}
}

// P4.3, bytes drawn at once and in two parts, with draws that fail between them.
func TestBytesInParts(t *testing.T) {
	b := seeded(40, 5)
	for n := range len(b) + 1 {
		for first := range n + 1 {
			x := laid(t, b...)
			one, err := x.Take(first)
			if err != nil {
				t.Fatal(err)
			}
			wantNone(t, x, len(b)-first+1, func(t *testing.T, err error) { wantEnd(t, err, len(b)-first) })
			wantNone(t, x, -1, wantArg)
			two, err := x.Take(n - first)
			if err != nil || !bytes.Equal(append(one, two...), b[:n]) {
				t.Fatalf("%d bytes and %d more are %v and %v, %v", first, n-first, one, two, err)
			}
			wantTake(t, x, b[n:]...)
		}
	}
}

// P4.3, digits drawn at once and in two parts, and what is left behind both.
func TestDigitsInParts(t *testing.T) {
	b := seeded(60, 6)
	for n := 0; ; n++ {
		whole := laid(t, b...)
		text, err := whole.Digits(n)
		if err != nil {
			wantEnd(t, err, len(b))
			if n < 20 {
				t.Fatalf("only %d digits in %v", n-1, b)
			}
			return
		}
		for first := range n + 1 {
			x := laid(t, b...)
			one, err1 := x.Digits(first)
			two, err2 := x.Digits(n - first)
			if err1 != nil || err2 != nil || one+two != text || x.Left() != whole.Left() {
				t.Fatalf("%d digits and %d more are %q and %q, with %d left; at once %q, with %d",
					first, n-first, one, two, x.Left(), text, whole.Left())
			}
		}
	}
}

// P4.4, what is handed in stays, with what stands behind it in memory.
func TestHandedInStays(t *testing.T) {
	all := seeded(64, 7)
	before := bytes.Clone(all)
	x, err := tape.New(all[:32])
	if err != nil {
		t.Fatal(err)
	}
	for _, n := range []int{3, 0, 5, 100, -1} {
		x.Digits(n)
		x.Take(n)
	}
	if !bytes.Equal(all, before) {
		t.Error("what was handed in is another")
	}
}

// P4.4, what is handed in isn't kept.
func TestHandedInIsNotKept(t *testing.T) {
	b := []byte{1, 2, 3, 4, 5, 6}
	x, err := tape.New(b)
	if err != nil {
		t.Fatal(err)
	}
	clear(b)
	wantTake(t, x, 1, 2)
	wantDigits(t, x, "34", 2)
	b[4], b[5] = 255, 255
	wantDigits(t, x, "56", 0)
}

// P4.4, what is answered is new memory, and no room behind it is the tape's.
func TestAnsweredIsNew(t *testing.T) {
	x := laid(t, 1, 2, 3, 4, 5, 6)
	first, err := x.Take(2)
	if err != nil {
		t.Fatal(err)
	}
	none, err := x.Take(0)
	if err != nil {
		t.Fatal(err)
	}
	for _, b := range [][]byte{first[:cap(first)], none[:cap(none)]} {
		for i := range b {
			b[i] = 99
		}
	}
	second, err := x.Take(2)
	if err != nil || !bytes.Equal(second, []byte{3, 4}) {
		t.Errorf("the second draw is %v, %v", second, err)
	}
	clear(second[:cap(second)])
	if !bytes.Equal(first, []byte{99, 99}) {
		t.Errorf("the first draw became %v", first)
	}
	wantTake(t, x, 5, 6)
}

// P4.4, tapes of the same bytes are drawn each for itself.
func TestTapesAreApart(t *testing.T) {
	b := []byte{1, 2, 3}
	one, two := laid(t, b...), laid(t, b...)
	wantTake(t, one, 1, 2)
	wantLeft(t, two, 3)
	wantDigits(t, two, "123", 0)
	wantTake(t, one, 3)
}
