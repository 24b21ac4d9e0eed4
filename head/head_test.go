package head_test

import (
	"errors"
	"math"
	"math/rand"
	"strconv"
	"strings"
	"testing"

	"lockbox/api"
	"lockbox/head"
)

const (
	decimals = "0123456789"
	signs    = "ABCDEFGHIJKLMNOPQRSTUVWXYZ0123456789"
	modes    = "BCDEGNSTVXY"
	example  = "B0016P0TE00E0000"
)

// a field is a place in a printed head, how many bytes it has, and which.
type field struct {
	place, width int
	of           string
}

// fields is those of a printed head, by the chapter's words; all but the length
// and the zeros are fields of api.Head.
var fields = []field{
	{0, 1, "BD"}, {1, 4, decimals}, {5, 2, signs}, {7, 1, "TA"},
	{8, 1, modes}, {9, 2, signs}, {11, 1, "ENS"}, {12, 4, "0"},
}

func one(c byte) string { return string([]byte{c}) }

// with is s with the byte at a place changed to c.
func with(s string, place int, c byte) string { return s[:place] + one(c) + s[place+1:] }

// read is the fields of a printed head, right or not.
func read(s string) api.Head {
	return api.Head{Version: s[0], Usage: s[5:7], Alg: s[7], Mode: s[8], Serial: s[9:11], Export: s[11]}
}

// shown is a head printed with a length, right or not, by the chapter's words.
func shown(h api.Head, length int) string {
	digits := strconv.Itoa(length)
	digits = strings.Repeat("0", 4-len(digits)) + digits
	return one(h.Version) + digits + h.Usage + one(h.Alg) + one(h.Mode) + h.Serial + one(h.Export) + "0000"
}

// wrongPlace is the place of the first field of a head that isn't right; -1: it
// is right.
func wrongPlace(h api.Head) int {
	texts := map[int]string{0: one(h.Version), 5: h.Usage, 7: one(h.Alg), 8: one(h.Mode), 9: h.Serial, 11: one(h.Export)}
	for _, f := range fields {
		if s, ok := texts[f.place]; ok && (len(s) != f.width || strings.Trim(s, f.of) != "") {
			return f.place
		}
	}
	return -1
}

// wrongText is the first place of sixteen bytes or more that can't be; -1: all
// can.
func wrongText(s string) int {
	for _, f := range fields {
		text := s[f.place : f.place+f.width]
		if strings.Trim(text, f.of) != "" || f.place == 1 && text < "0016" {
			return f.place
		}
	}
	return -1
}

// eachHead does something with right heads of each Version, kind, mode and way
// out, with some usages and serials.
func eachHead(do func(h api.Head)) {
	pairs := []string{"P0", "D0", "00", "ZZ", "9A", "A9", "K1"}
	i := 0
	for _, version := range []byte("BD") {
		for _, alg := range []byte("TA") {
			for _, mode := range []byte(modes) {
				for _, export := range []byte("ENS") {
					i++
					do(api.Head{Version: version, Usage: pairs[i%7], Alg: alg, Mode: mode, Serial: pairs[i%5], Export: export})
				}
			}
		}
	}
}

// wantAlone wants an error that is a number without a place.
func wantAlone(t *testing.T, name string, err error, number api.Errno) {
	t.Helper()
	if !errors.Is(err, number) || api.Code(err) != int(number) || api.At(err) != -1 {
		t.Fatalf("%s: the error is %v at %d, want %d alone", name, err, api.At(err), int(number))
	}
}

// wantFault wants a Fault of a number at a place, and none behind it.
func wantFault(t *testing.T, name string, err error, number api.Errno, place int) {
	t.Helper()
	var fault, inner *api.Fault
	if !errors.As(err, &fault) || fault.At != place || errors.As(fault.Err, &inner) {
		t.Fatalf("%s: the error is %v at %d, want one fault at %d", name, err, api.At(err), place)
	}
	if !errors.Is(err, number) || api.Code(err) != int(number) {
		t.Fatalf("%s: the error's number is %d, want %d", name, api.Code(err), int(number))
	}
}

// wantRight wants of Right what the chapter's words say of a head.
func wantRight(t *testing.T, h api.Head) {
	t.Helper()
	name, err := strconv.Quote(shown(h, 16)), head.Right(h)
	if place := wrongPlace(h); place >= 0 {
		wantFault(t, name, err, api.ErrForm, place)
	} else if err != nil {
		t.Fatalf("%s isn't right: %v", name, err)
	}
}

// wantPrint wants of Print what the chapter's words say of a head and a length.
func wantPrint(t *testing.T, h api.Head, length int) {
	t.Helper()
	got, err := head.Print(h, length)
	name := strconv.Quote(h.Usage) + ", " + strconv.Itoa(length)
	if place := wrongPlace(h); place >= 0 {
		wantFault(t, name, err, api.ErrForm, place)
	} else if length < 16 || length > 9999 {
		wantAlone(t, name, err, api.ErrArg)
	} else if want := shown(h, length); err != nil || got != want {
		t.Fatalf("%+q with the length %d is printed %q, %v, want %q", h, length, got, err, want)
	}
	if err != nil && got != "" {
		t.Fatalf("%q stands beside an error", got)
	}
}

// wantParse wants of Parse what the chapter's words say of a text.
func wantParse(t *testing.T, s string) {
	t.Helper()
	h, length, err := head.Parse(s)
	name := strconv.Quote(s)
	if len(s) < 16 {
		wantAlone(t, name, err, api.ErrSize)
	} else if place := wrongText(s); place >= 0 {
		wantFault(t, name, err, api.ErrForm, place)
	} else if want, _ := strconv.Atoi(s[1:5]); err != nil || h != read(s) || length != want {
		t.Fatalf("of %s %+q and %d are read, %v, want %+q and %d", name, h, length, err, read(s), want)
	}
	if err != nil && (h != api.Head{} || length != 0) {
		t.Fatalf("%+q and %d stand beside an error", h, length)
	}
}

// P10.1, P10.2: the chapter's example, and others, read and printed.
func TestKnownHeads(t *testing.T) {
	for _, x := range []struct {
		s      string
		want   api.Head
		length int
	}{
		{example, api.Head{Version: 'B', Usage: "P0", Alg: 'T', Mode: 'E', Serial: "00", Export: 'E'}, 16},
		{"D0144D0AB01S0000", api.Head{Version: 'D', Usage: "D0", Alg: 'A', Mode: 'B', Serial: "01", Export: 'S'}, 144},
		{"D9999ZZTNZ9N0000", api.Head{Version: 'D', Usage: "ZZ", Alg: 'T', Mode: 'N', Serial: "Z9", Export: 'N'}, 9999},
		{"B1000V1AVA0E0000", api.Head{Version: 'B', Usage: "V1", Alg: 'A', Mode: 'V', Serial: "A0", Export: 'E'}, 1000},
	} {
		h, length, err := head.Parse(x.s)
		if err != nil || h != x.want || length != x.length {
			t.Fatalf("of %q %+q and %d are read, %v, want %+q and %d", x.s, h, length, err, x.want, x.length)
		}
		if err := head.Right(x.want); err != nil {
			t.Fatalf("%+q isn't right: %v", x.want, err)
		}
		if s, err := head.Print(x.want, x.length); err != nil || s != x.s {
			t.Fatalf("%+q is printed %q, %v, want %q", x.want, s, err, x.s)
		}
	}
}

// P10.1: right heads of each kind, and each usage and serial of two signs.
func TestRightHeads(t *testing.T) {
	eachHead(func(h api.Head) {
		if err := head.Right(h); err != nil {
			t.Fatalf("%+q isn't right: %v", h, err)
		}
	})
	for _, a := range []byte(signs) {
		for _, b := range []byte(signs) {
			h := read(example)
			h.Usage, h.Serial = one(a)+one(b), one(b)+one(a)
			if err := head.Right(h); err != nil {
				t.Fatalf("%+q isn't right: %v", h, err)
			}
		}
	}
}

// P10.1, P10.2: each of the 256 bytes in each place of each field, and which
// fault comes then; Print answers the same.
func TestEachByteOfEachField(t *testing.T) {
	for _, s := range []string{example, "D0144D0AB01S0000"} {
		for _, place := range []int{0, 5, 6, 7, 8, 9, 10, 11} {
			for c := range 256 {
				h := read(with(s, place, byte(c)))
				wantRight(t, h)
				wantPrint(t, h, 16)
			}
		}
	}
	// A head of nothing, and the places of faults written out.
	wantFault(t, "nothing", head.Right(api.Head{}), api.ErrForm, 0)
	for place, at := range map[int]int{0: 0, 5: 5, 6: 5, 7: 7, 8: 8, 9: 9, 10: 9, 11: 11} {
		for _, c := range []byte{0, ' ', '-', '/', ':', '@', 'a', 'b', 'e', 'n', 's', 't', 'z', '[', 0x7f, 0xc2, 0xff} {
			wantFault(t, one(c), head.Right(read(with(example, place, c))), api.ErrForm, at)
		}
	}
}

// P10.1: usages and serials of each length from none to four bytes, and longer
// ones; alone and both.
func TestLengthsOfPairs(t *testing.T) {
	texts := []string{"", "P", "P0", "P0P", "P0P0", "0", "000", "p", "p0", "\x00", "P0\x00", "é", "Pé", "éé", " P0", "P0 ", strings.Repeat("P0", 1000)}
	for _, usage := range texts {
		for _, serial := range texts {
			h := read(example)
			h.Usage, h.Serial = usage, serial
			err := head.Right(h)
			switch {
			case usage != "P0":
				wantFault(t, usage, err, api.ErrForm, 5)
			case serial != "P0":
				wantFault(t, serial, err, api.ErrForm, 9)
			case err != nil:
				t.Fatalf("%+q isn't right: %v", h, err)
			}
			wantPrint(t, h, 80)
			wantPrint(t, h, 0)
		}
	}
}

// spoilt is a head with some of its fields spoilt, a bit each, in their order,
// and the first one's place; -1: none.
func spoilt(h api.Head, which int) (api.Head, int) {
	places := [...]int{0, 5, 7, 8, 9, 11}
	first := -1
	for i := range places {
		if which>>i&1 == 0 {
			continue
		}
		if first < 0 {
			first = places[i]
		}
		switch i {
		case 0:
			h.Version = 'C'
		case 1:
			h.Usage = "P"
		case 2:
			h.Alg = 'D'
		case 3:
			h.Mode = 'A'
		case 4:
			h.Serial = "000"
		case 5:
			h.Export = 'T'
		}
	}
	return h, first
}

// P10.1, P10.2: of two and more fields that aren't right the first is told, and
// ahead of a length that can't be printed.
func TestMoreFieldsThatArentRight(t *testing.T) {
	for which := 1; which < 1<<6; which++ {
		h, place := spoilt(read(example), which)
		wantFault(t, strconv.Itoa(which), head.Right(h), api.ErrForm, place)
		for _, length := range []int{math.MinInt, -1, 0, 15, 16, 80, 9999, 10000, math.MaxInt} {
			s, err := head.Print(h, length)
			wantFault(t, strconv.Itoa(which), err, api.ErrForm, place)
			if s != "" {
				t.Fatalf("%q stands beside an error", s)
			}
		}
	}
}

// P10.2: lengths from below 0 to above 9999.
func TestLengths(t *testing.T) {
	h := read("D0144D0AB01S0000")
	for length := -20; length < 10100; length++ {
		wantPrint(t, h, length)
	}
	for _, length := range []int{math.MinInt, math.MinInt32, -10000, -9999, -16, 10015, 10016, 19999, 65552, 99999, 100016, 1<<32 + 16, math.MaxInt} {
		wantPrint(t, h, length)
	}
	for _, x := range []struct {
		length int
		want   string
	}{{16, "D0016D0AB01S0000"}, {99, "D0099D0AB01S0000"}, {100, "D0100D0AB01S0000"}, {999, "D0999D0AB01S0000"}, {1000, "D1000D0AB01S0000"}, {9999, "D9999D0AB01S0000"}} {
		if s, err := head.Print(h, x.length); err != nil || s != x.want {
			t.Fatalf("with the length %d it is printed %q, %v, want %q", x.length, s, err, x.want)
		}
	}
}

// P10.2: texts of each length from none on; fewer bytes than sixteen are told
// ahead of what can't be, and what follows sixteen says nothing.
func TestLengthsOfTexts(t *testing.T) {
	behind := "\x00 0é\xff" + strings.Repeat("x", 100)
	for _, s := range []string{example + behind, "\x00" + example + behind, strings.Repeat("0", 120), strings.Repeat("\xff", 120), strings.Repeat("é", 60)} {
		for n := range 100 {
			wantParse(t, s[:n])
		}
	}
	wantParse(t, example+strings.Repeat(example, 1<<16))
	h, length, err := head.Parse("D0144D0AB01S0000rest")
	if err != nil || length != 144 || h != read("D0144D0AB01S0000") {
		t.Fatalf("%+q and %d are read, %v", h, length, err)
	}
}

// P10.2: each of the 256 bytes in each of the sixteen places, alone and with a
// second place that can't be.
func TestEachByteOfAPrintedHead(t *testing.T) {
	for place := range 16 {
		for c := range 256 {
			s := with(example, place, byte(c))
			wantParse(t, s)
			wantParse(t, s+"\xff")
			for other := range 16 {
				if other != place {
					wantParse(t, with(s, other, '-'))
				}
			}
		}
	}
}

// P10.2: where the fault is, written out: of two fields that can't be the first
// one.
func TestPlacesOfFaults(t *testing.T) {
	places := [16]int{0, 1, 1, 1, 1, 5, 5, 7, 8, 9, 9, 11, 12, 12, 12, 12}
	for a, at := range places {
		for b := a; b < 16; b++ {
			for _, c := range []byte{0, ' ', '-', '/', ':', 'a', 0x80, 0xff} {
				s := with(with(example, a, c), b, c)
				h, length, err := head.Parse(s)
				wantFault(t, strconv.Quote(s), err, api.ErrForm, at)
				if (h != api.Head{}) || length != 0 {
					t.Fatalf("%+q and %d stand beside an error", h, length)
				}
			}
		}
	}
}

// P10.2: all lengths of four digits: what is below 16 can't be, with another
// field that can't be ahead of it or behind.
func TestLengthsThatAreRead(t *testing.T) {
	for n := range 10000 {
		digits := strconv.Itoa(10000 + n)[1:]
		s := example[:1] + digits + example[5:]
		wantParse(t, s)
		wantParse(t, s+"0000")
		if n >= 40 {
			continue
		}
		for place := range 16 {
			wantParse(t, with(s, place, '-'))
		}
	}
	for _, digits := range []string{"0000", "0001", "0009", "0015"} {
		_, _, err := head.Parse("B" + digits + "P0TE00E0000")
		wantFault(t, digits, err, api.ErrForm, 1)
		_, _, err = head.Parse("A" + digits + "p0DA--X1111")
		wantFault(t, digits, err, api.ErrForm, 0)
		_, _, err = head.Parse("B" + digits + "p0DA--X1111")
		wantFault(t, digits, err, api.ErrForm, 1)
	}
}

// P10.2: lengths that aren't four decimal digits, hexadecimal ones, signs and
// blanks among them.
func TestLengthsOfNoDigits(t *testing.T) {
	for _, digits := range []string{"00x6", "001A", "00FF", "ABCD", "+016", "-016", " 016", "016 ", "0 16", "1e03", "0x10", "1_00", "16.0", "9 99", "/999", ":999", "99:9", "999/", "0b11", "\x00016", "é16", "\xff999"} {
		for _, behind := range []string{"P0TE00E0000", "p0TE00E0000", "P0TE00E1111"} {
			_, _, err := head.Parse("B" + digits + behind)
			wantFault(t, strconv.Quote(digits), err, api.ErrForm, 1)
		}
	}
}

// P10.2: the four bytes from the place 12 on: each one, and some together.
func TestTheZeros(t *testing.T) {
	for c := 1; c < 256; c++ {
		for place := 12; place < 16; place++ {
			b := byte(c)
			if b == '0' {
				b = 0
			}
			_, _, err := head.Parse(with(example, place, b) + "0000")
			wantFault(t, strconv.Quote(one(b)), err, api.ErrForm, 12)
		}
	}
	for n := 1; n < 10000; n++ {
		_, _, err := head.Parse(example[:12] + strconv.Itoa(10000 + n)[1:])
		wantFault(t, strconv.Itoa(n), err, api.ErrForm, 12)
	}
}

// wantFits wants of Fits what the chapter's words say.
func wantFits(t *testing.T, h api.Head, usage string, mode byte) {
	t.Helper()
	err := head.Fits(h, usage, mode)
	name := shown(h, 16) + " for " + strconv.Quote(usage) + ", " + strconv.Quote(one(mode))
	switch {
	case h.Usage != usage:
		wantFault(t, name, err, api.ErrUse, 5)
	case h.Mode != mode && h.Mode != 'N':
		wantFault(t, name, err, api.ErrUse, 8)
	case err != nil:
		t.Fatalf("%s: %v", name, err)
	}
}

// P10.3: each mode held against each other, N in the head and N asked for among
// them, with the head's usage and another one.
func TestFitsOfEachMode(t *testing.T) {
	eachHead(func(h api.Head) {
		for _, mode := range []byte(modes) {
			wantFits(t, h, h.Usage, mode)
			wantFits(t, h, "Q7", mode)
		}
		for mode := range 256 {
			wantFits(t, h, h.Usage, byte(mode))
		}
	})
	for _, x := range []struct {
		own, asked byte
		place      int
	}{{'E', 'E', -1}, {'N', 'E', -1}, {'N', 'N', -1}, {'N', 'V', -1}, {'E', 'N', 8}, {'E', 'D', 8}, {'B', 'E', 8}, {'B', 'D', 8}, {'X', 'Y', 8}, {'E', 'e', 8}, {'E', 0, 8}} {
		h := read(with(example, 8, x.own))
		if err := head.Fits(h, "P0", x.asked); api.At(err) != x.place || (err == nil) != (x.place < 0) {
			t.Fatalf("the mode %q for %q: %v at %d, want %d", x.own, x.asked, err, api.At(err), x.place)
		}
		wantFault(t, "another usage", head.Fits(h, "P1", x.asked), api.ErrUse, 5)
	}
}

// P10.3: each usage held against each other, with the head's mode and with N.
func TestFitsOfEachUsage(t *testing.T) {
	var usages []string
	for _, a := range []byte(signs) {
		for _, b := range []byte(signs) {
			usages = append(usages, one(a)+one(b))
		}
	}
	for i, own := range usages {
		h := read(with(example, 8, "EN"[i%2]))
		h.Usage = own
		for _, asked := range usages {
			err := head.Fits(h, asked, 'E')
			if own == asked && err != nil || own != asked && (!errors.Is(err, api.ErrUse) || api.At(err) != 5) {
				t.Fatalf("%q for %q: %v at %d", own, asked, err, api.At(err))
			}
		}
		wantFits(t, h, own, 'D')
	}
}

// P10.3: usages of another length, and such as are none, fit no head.
func TestFitsOfOtherUsages(t *testing.T) {
	for _, asked := range []string{"", "P", "0", "P0P", "P00", " P0", "P0 ", "P0\x00", "\x00P0", "P0P0", "p0", "P\x00", "P\xff", "é", "0P", "N", "NN", strings.Repeat("P0", 1000)} {
		for _, mode := range []byte("EDN") {
			for _, own := range []byte("EN") {
				wantFault(t, strconv.Quote(asked), head.Fits(read(with(example, 8, own)), asked, mode), api.ErrUse, 5)
			}
		}
	}
}

// P10.4: what is printed, read and printed again; with another text behind it
// too.
func TestThereAndBack(t *testing.T) {
	r := rand.New(rand.NewSource(10))
	eachHead(func(h api.Head) {
		for _, length := range []int{16, 17, 80, 999, 9999, 16 + r.Intn(9984)} {
			s, err := head.Print(h, length)
			if err != nil || len(s) != 16 {
				t.Fatalf("%+q with the length %d is printed %q, %v", h, length, s, err)
			}
			for _, behind := range []string{"", "0", "rest", s} {
				got, n, err := head.Parse(s + behind)
				if err != nil || got != h || n != length {
					t.Fatalf("of %q %+q and %d are read, %v, want %+q and %d", s+behind, got, n, err, h, length)
				}
				if again, err := head.Print(got, n); err != nil || again != s {
					t.Fatalf("%q is printed %q, %v", s, again, err)
				}
			}
		}
	})
}

// P10.4: nothing else is read: whatever text is, is printed so again.
func TestNothingElseIsRead(t *testing.T) {
	r := rand.New(rand.NewSource(11))
	count := 0
	for range 200000 {
		s := example
		for _, f := range fields {
			for i := range f.width {
				// Now and then a byte just beside one that may stand there.
				c := f.of[r.Intn(len(f.of))]
				if r.Intn(40) == 0 {
					c += byte(r.Intn(5) - 2)
				}
				s = with(s, f.place+i, c)
			}
		}
		wantParse(t, s)
		if h, length, err := head.Parse(s); err == nil {
			count++
			if again, err := head.Print(h, length); err != nil || again != s {
				t.Fatalf("%q is read, but printed %q, %v", s, again, err)
			}
		}
	}
	if count < 1000 {
		t.Fatalf("only %d texts are read", count)
	}
}

// P1: whatever bytes come, each call ends, and none panics.
func TestWhateverBytes(t *testing.T) {
	r := rand.New(rand.NewSource(12))
	for range 20000 {
		b := make([]byte, r.Intn(40))
		r.Read(b)
		wantParse(t, string(b))
		h := api.Head{Version: byte(r.Intn(256)), Usage: string(b), Alg: byte(r.Intn(256)), Mode: byte(r.Intn(256)), Serial: string(b), Export: byte(r.Intn(256))}
		wantRight(t, h)
		wantPrint(t, h, r.Intn(20000)-5000)
		wantFits(t, h, string(b), h.Mode)
		wantFits(t, h, "", 0)
	}
}
