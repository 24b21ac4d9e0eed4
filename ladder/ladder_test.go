package ladder_test

import (
	"bytes"
	libdes "crypto/des"
	"encoding/hex"
	"errors"
	"fmt"
	"math"
	"math/bits"
	"math/rand"
	"slices"
	"strings"
	"testing"

	"lockbox/api"
	"lockbox/dukpt"
	"lockbox/ladder"
)

const (
	// largest is the largest counter of 21 bits, last the largest of those with at
	// most ten bits that are 1.
	largest = 1<<21 - 1
	last    = 0x1ff800
)

func unhex(t *testing.T, text string) []byte {
	t.Helper()
	b, err := hex.DecodeString(text)
	if err != nil {
		t.Fatal(err)
	}
	return b
}

func filled(size int, with byte) []byte { return bytes.Repeat([]byte{with}, size) }

func seeded(size int, seed int64) []byte {
	all := make([]byte, size)
	rand.New(rand.NewSource(seed)).Read(all)
	return all
}

// The chapter's words once more: counted one by one, with the library's DES.

// onesOf is how many bits of a counter are 1.
func onesOf(counter int) int {
	ones := 0
	for ; counter > 0; counter /= 2 {
		ones += counter % 2
	}
	return ones
}

// counted is all counters above 0 with at most ten bits that are 1, in their order.
func counted() []int {
	var all []int
	for counter := 1; counter <= largest; counter++ {
		if onesOf(counter) <= 10 {
			all = append(all, counter)
		}
	}
	return all
}

// fullAt is how many registers have a key behind the key of a counter (0: behind
// none). The register i has one, if it waits for the counter that has i as its lowest
// bit and what stands above i as it is now: the bit i is still 0, and there is room
// for one more that is 1.
func fullAt(taken int) int {
	full := 0
	for i := range 21 {
		if taken>>i%2 == 0 && onesOf(taken>>i) < 10 {
			full++
		}
	}
	return full
}

// single is a block enciphered with DES.
func single(key, block []byte) []byte {
	c, err := libdes.NewCipher(key)
	if err != nil {
		panic(err)
	}
	all := make([]byte, 8)
	c.Encrypt(all, block)
	return all
}

// xor is a turned by b.
func xor(a, b []byte) []byte {
	all := bytes.Clone(a)
	for i := range all {
		all[i] ^= b[i]
	}
	return all
}

// stepOf is a step of a key.
func stepOf(key [16]byte, x []byte) [16]byte {
	mask := []byte{0xc0, 0xc0, 0xc0, 0xc0, 0, 0, 0, 0}
	l, r := key[:8], key[8:]
	right := xor(single(l, xor(x, r)), r)
	l, r = xor(l, mask), xor(r, mask)
	left := xor(single(l, xor(x, r)), r)
	return [16]byte(slices.Concat(left, right))
}

// below tells each counter that has more bits than this one, all below its own, at
// most ten in all, with its key: in the order in which they are counted.
func below(ksn [10]byte, counter int, key [16]byte, tell func(counter int, key [16]byte)) {
	if onesOf(counter) == 10 {
		return
	}
	for i := 0; i < 21 && counter%(1<<(i+1)) == 0; i++ {
		more := counter + 1<<i
		number := dukpt.At(ksn, more)
		moreKey := stepOf(key, number[2:])
		tell(more, moreKey)
		below(ksn, more, moreKey, tell)
	}
}

// firsts is first keys: all 0, all 1, and mixed.
func firsts(t *testing.T) [][16]byte {
	return [][16]byte{
		{}, [16]byte(filled(16, 0xff)), [16]byte(unhex(t, "6ac292faa1315b4d858ab3a3d7d5933a")),
		[16]byte(seeded(16, 1)), [16]byte(seeded(16, 2)), [16]byte(bytes.Repeat(seeded(8, 3), 2)),
	}
}

// numbers is numbers whose other bits than the counter's, and the counter's too, are
// all 0, all 1 and mixed.
func numbers(t *testing.T) [][10]byte {
	var all [][10]byte
	for _, text := range []string{
		"00000000000000000000", "000000000000001fffff", "ffffffffffffffe00000", "ffffffffffffffffffff",
		"ffff9876543210e00000", "ffff9876543210e00001", "aaaaaaaaaaaaaaaaaaaa", "55555555555555555555",
		"80000000000000200000", "000000000000001ff800",
	} {
		all = append(all, [10]byte(unhex(t, text)))
	}
	for seed := range int64(4) {
		all = append(all, [10]byte(seeded(10, 100+seed)))
	}
	return all
}

// wantTaken takes a key, and wants it to be the one that the host derives of the
// number with this counter.
func wantTaken(t *testing.T, l *ladder.Ladder, first [16]byte, ksn [10]byte, counter int) {
	t.Helper()
	number := dukpt.At(ksn, counter)
	want, err := dukpt.Derive(first, number)
	if err != nil {
		t.Fatal(err)
	}
	key, at, err := l.Take()
	if err != nil || key != want || at != number {
		t.Fatalf("the key is %x of %x, %v, want %x of %x", key, at, err, want, number)
	}
}

// wantSpent takes a key where none is left.
func wantSpent(t *testing.T, l *ladder.Ladder) {
	t.Helper()
	key, at, err := l.Take()
	wantErrSpent(t, err)
	if key != [16]byte{} || at != [10]byte{} {
		t.Fatalf("beside the error stands %x of %x", key, at)
	}
}

func wantErrSpent(t *testing.T, err error) {
	t.Helper()
	if !errors.Is(err, api.ErrSpent) || api.Code(err) != int(api.ErrSpent) || api.At(err) != -1 {
		t.Fatalf("the error is %v, at %d, want ErrSpent alone", err, api.At(err))
	}
}

// wantFull wants so many registers to have a key.
func wantFull(t *testing.T, l *ladder.Ladder, want int) {
	t.Helper()
	if got := l.Full(); got != want {
		t.Fatalf("%d registers have a key, want %d", got, want)
	}
}

// skipFar skips n keys, of which there are as many.
func skipFar(t *testing.T, l *ladder.Ladder, n int) {
	t.Helper()
	for ; n > 0; n -= 5000 {
		if err := l.Skip(min(n, 5000)); err != nil {
			t.Fatal(err)
		}
	}
}

// copied is another terminal that is where this one is: the way to the end of one is
// long.
func copied(l *ladder.Ladder) *ladder.Ladder {
	other := *l
	return &other
}

// P13.1: the next counter of each counter of 21 bits, held against counting on one by
// one.
func TestNext(t *testing.T) {
	want := 0
	for counter := largest; counter >= 0; counter-- {
		got, ok := ladder.Next(counter)
		if got != want || ok != (want != 0) {
			t.Fatalf("behind %x: %x, %v, want %x", counter, got, ok, want)
		}
		if onesOf(counter) <= 10 {
			want = counter
		}
	}
}

// P13.1: counters by hand, where a bit of more is carried or not.
func TestNextOfSome(t *testing.T) {
	for counter, want := range map[int]int{
		0: 1, 1: 2, 2: 3, 0x3fe: 0x3ff, 0x3ff: 0x400, 0x7fe: 0x800, 0x7ff: 0x800, 0x800: 0x801,
		0xffb: 0xffc, 0xffc: 0x1000, 0xfff: 0x1000, 0x1fefff: 0x1ff000, 0x1ff000: 0x1ff001,
		0x1ff001: 0x1ff002, 0x1ff400: 0x1ff800, last - 1: last,
	} {
		if got, ok := ladder.Next(counter); got != want || !ok {
			t.Errorf("behind %x: %x, %v, want %x", counter, got, ok, want)
		}
	}
	for _, counter := range []int{last, last + 1, last + 0x400, largest - 1, largest} {
		if got, ok := ladder.Next(counter); got != 0 || ok {
			t.Errorf("behind %x: %x, %v", counter, got, ok)
		}
	}
}

// P13.1: 0 and false of numbers that aren't counters: below 0, of 2^21 and above, and
// such whose lowest bits are a counter's.
func TestNextOfOthers(t *testing.T) {
	others := []int{
		-1, -2, -3, -1024, -largest, -largest - 1, -largest - 2, largest + 1, largest + 2, largest + 1024,
		1<<22 - 1, 1 << 22, math.MinInt32, math.MaxInt32, math.MinInt, math.MinInt + 1, math.MinInt + last,
		math.MaxInt, math.MaxInt - 1, math.MaxInt - largest,
	}
	for place := 21; place < bits.UintSize; place++ {
		for _, low := range []int{0, 1, 5, 1023, last, largest} {
			others = append(others, 1<<place|low, -1<<place|low)
		}
	}
	for counter := range 2048 {
		others = append(others, -1-counter, largest+1+counter)
	}
	for _, counter := range others {
		if got, ok := ladder.Next(counter); got != 0 || ok {
			t.Errorf("behind %x: %x, %v", counter, got, ok)
		}
	}
}

// P13.2: the first key that is taken is that of the counter 1; it and the two behind
// it, as X9.24-1 publishes them.
func TestTakeOfPublished(t *testing.T) {
	l := ladder.New([16]byte(unhex(t, "6ac292faa1315b4d858ab3a3d7d5933a")), [10]byte(unhex(t, "ffff9876543210e00000")))
	for _, c := range []struct{ key, ksn string }{
		{"042666b49184cfa368de9628d0397bc9", "ffff9876543210e00001"},
		{"c46551cef9fd24b0aa9ad834130d3bc7", "ffff9876543210e00002"},
		{"0df3d9422aca56e547676d07ad6badfa", "ffff9876543210e00003"},
	} {
		key, ksn, err := l.Take()
		if err != nil || key != [16]byte(unhex(t, c.key)) || ksn != [10]byte(unhex(t, c.ksn)) {
			t.Errorf("the key is %x of %x, %v, want %s of %s", key, ksn, err, c.key, c.ksn)
		}
	}
}

// P13.1, P13.2: terminals of whatever first keys and numbers begin with the counter 1,
// whatever the number's own one says, and go on in their order, with so many registers
// full behind each key.
func TestTake(t *testing.T) {
	for i, first := range firsts(t) {
		for j, ksn := range numbers(t) {
			many := 70
			if i == j {
				many = 1200
			}
			l := ladder.New(first, ksn)
			wantFull(t, l, 21)
			for counter := 1; counter <= many; counter++ {
				wantTaken(t, l, first, ksn, counter)
				wantFull(t, l, fullAt(counter))
			}
		}
	}
}

// P13.2, P13.3: the keys of the first thousands of counters, of which some have too
// many bits, are what the host derives of each number, and none comes twice.
func TestTakeThousands(t *testing.T) {
	first, ksn := [16]byte(seeded(16, 11)), [10]byte(seeded(10, 12))
	l := ladder.New(first, ksn)
	keys, seen := map[[16]byte]int{first: 0}, map[[10]byte]int{}
	for counter := 1; counter < 6000; counter++ {
		if onesOf(counter) > 10 {
			continue
		}
		key, number, err := l.Take()
		want, wantErr := dukpt.Derive(first, dukpt.At(ksn, counter))
		if err != nil || wantErr != nil || key != want || number != dukpt.At(ksn, counter) {
			t.Fatalf("%x: the key is %x of %x, %v, want %x", counter, key, number, err, want)
		}
		if before, ok := keys[key]; ok {
			t.Fatalf("%x and %x have the same key", before, counter)
		}
		if before, ok := seen[number]; ok {
			t.Fatalf("%x and %x have the same number", before, counter)
		}
		keys[key], seen[number] = counter, counter
		wantFull(t, l, fullAt(counter))
	}
}

// P13.1: terminals of numbers that differ in the counter alone are alike in all that
// they answer.
func TestCounterSaysNothing(t *testing.T) {
	for i, first := range firsts(t) {
		for _, ksn := range numbers(t) {
			all := []*ladder.Ladder{ladder.New(first, dukpt.At(ksn, 0))}
			for _, counter := range []int{1, 2, 1 << 20, 0x155555, largest, last, rand.New(rand.NewSource(int64(i))).Intn(largest)} {
				all = append(all, ladder.New(first, dukpt.At(ksn, counter)))
			}
			for place := range 21 {
				all = append(all, ladder.New(first, dukpt.At(ksn, 1<<place)))
			}
			wantAlike(t, all)
		}
	}
}

// wantAlike takes and skips a few keys of each, and wants the same answers.
func wantAlike(t *testing.T, all []*ladder.Ladder) {
	t.Helper()
	for range 3 {
		key, number, err := all[0].Take()
		skipErr, full := all[0].Skip(3), all[0].Full()
		for _, l := range all[1:] {
			otherKey, otherNumber, otherErr := l.Take()
			otherSkipErr, otherFull := l.Skip(3), l.Full()
			if otherKey != key || otherNumber != number || otherErr != err || otherSkipErr != skipErr || otherFull != full {
				t.Fatalf("%x of %x and %x of %x", key, number, otherKey, otherNumber)
			}
		}
	}
}

// P13.1: each other bit of a number is a terminal's own: the numbers of its keys
// have it, and the keys hang on all those in the last eight bytes.
func TestOtherBits(t *testing.T) {
	for _, first := range firsts(t) {
		for _, ksn := range numbers(t) {
			key, number, err := ladder.New(first, ksn).Take()
			if err != nil {
				t.Fatal(err)
			}
			for place := 21; place < 80; place++ {
				other := ksn
				other[9-place/8] ^= 1 << (place % 8)
				otherKey, otherNumber, err := ladder.New(first, other).Take()
				if err != nil || otherNumber != dukpt.At(other, 1) || otherNumber == number || (otherKey == key) != (place >= 64) {
					t.Fatalf("%x, bit %d turned: %x of %x, %v", ksn, place, otherKey, otherNumber, err)
				}
			}
		}
	}
}

// P13.1: each bit of the first key but those of parity makes other keys.
func TestOtherFirstKeys(t *testing.T) {
	first, ksn := [16]byte(seeded(16, 21)), [10]byte(seeded(10, 22))
	key, number, err := ladder.New(first, ksn).Take()
	if err != nil {
		t.Fatal(err)
	}
	for place := range 128 {
		// DES overlooks the lowest bit of each byte of the left half.
		if place < 64 && place%8 == 0 {
			continue
		}
		other := first
		other[place/8] ^= 1 << (place % 8)
		otherKey, otherNumber, err := ladder.New(other, ksn).Take()
		if err != nil || otherKey == key || otherNumber != number {
			t.Fatalf("bit %d turned: %x of %x, %v", place, otherKey, otherNumber, err)
		}
	}
}

// P13.2: which registers are full behind counters of nine bits, of ten, and of ten
// beside each other. Behind those of nine bits the ones below are filled, behind those
// of ten they aren't.
func TestManyBits(t *testing.T) {
	first, ksn := [16]byte(seeded(16, 31)), [10]byte(seeded(10, 32))
	l := ladder.New(first, ksn)
	at := 0
	for _, c := range []struct{ counter, full, next int }{
		{0x1fe, 13, 0x1ff}, // nine beside each other, the lowest the bit 1
		{0x1ff, 12, 0x200},
		{0x200, 20, 0x201},
		{0x2ff, 12, 0x300},
		{0x3fd, 12, 0x3fe}, // nine, the lowest the bit 0
		{0x3fe, 12, 0x3ff}, // nine, the lowest the bit 1
		{0x3ff, 11, 0x400},
		{0x400, 20, 0x401},
		{0x7fc, 12, 0x7fd}, // nine, the lowest the bit 2
		{0x7fd, 11, 0x7fe},
		{0x7fe, 10, 0x800}, // ten beside each other, the register 0 is empty
		{0x800, 20, 0x801},
		{0xff8, 12, 0xff9},
		{0xff9, 11, 0xffa},
		{0xffa, 10, 0xffc},
		{0xffc, 9, 0x1000}, // ten beside each other, two are empty
		{0x1000, 20, 0x1001},
	} {
		for at < c.counter {
			next, _ := ladder.Next(at)
			if next == c.counter {
				break
			}
			if err := l.Skip(1); err != nil {
				t.Fatal(err)
			}
			at = next
		}
		wantTaken(t, l, first, ksn, c.counter)
		wantFull(t, l, c.full)
		wantTaken(t, copied(l), first, ksn, c.next)
		at = c.counter
	}
}

// P13.2, P13.3: all that a terminal has, to its end: each number in its order, none
// twice; each key held against the chapter's words; behind each so many registers are
// full; and behind the last one nothing comes, ask as often as one likes.
func TestWhole(t *testing.T) {
	t.Parallel()
	first, ksn := [16]byte(seeded(16, 41)), [10]byte(seeded(10, 42))
	l := ladder.New(first, ksn)
	many, before := 0, 0
	below(ksn, 0, first, func(counter int, want [16]byte) {
		key, number, err := l.Take()
		if err != nil || key != want || number != dukpt.At(ksn, counter) || counter <= before {
			t.Fatalf("%x: the key is %x of %x, %v, want %x", counter, key, number, err, want)
		}
		if full := l.Full(); full != fullAt(counter) {
			t.Fatalf("%x: %d registers have a key, want %d", counter, full, fullAt(counter))
		}
		many, before = many+1, counter
	})
	if many != 1<<20-1 || before != last {
		t.Fatalf("%d keys were taken, the last one of %x", many, before)
	}
	wantEnd(t, l)
}

// wantEnd wants nothing to come any more, whatever is asked.
func wantEnd(t *testing.T, l *ladder.Ladder) {
	t.Helper()
	for range 3 {
		wantSpent(t, l)
		wantFull(t, l, 0)
		for _, n := range []int{1, 2, 4999, 5000, 5001, math.MaxInt} {
			wantErrSpent(t, l.Skip(n))
		}
		for _, n := range []int{0, -1, -5000, math.MinInt} {
			if err := l.Skip(n); err != nil {
				t.Fatalf("%d skipped: %v", n, err)
			}
		}
	}
}

// P13.2: n keys are passed over, none if n is below 1, at most 5000; the next key is
// that of the counter behind them.
func TestSkip(t *testing.T) {
	first, ksn := [16]byte(seeded(16, 51)), [10]byte(seeded(10, 52))
	all := counted()
	for n, skipped := range map[int]int{
		0: 0, -1: 0, -2: 0, -4999: 0, -5000: 0, -5001: 0, math.MinInt: 0, math.MinInt + 1: 0, math.MinInt32: 0,
		1: 1, 2: 2, 3: 3, 1022: 1022, 1023: 1023, 1024: 1024, 2046: 2046, 2047: 2047, 4999: 4999,
		5000: 5000, 5001: 5000, 5002: 5000, 9999: 5000, 10000: 5000, 10001: 5000, 1 << 21: 5000,
		math.MaxInt32: 5000, math.MaxInt - 1: 5000, math.MaxInt: 5000, 1<<32 + 1: 5000, 1 << 40: 5000,
	} {
		l := ladder.New(first, ksn)
		if err := l.Skip(n); err != nil {
			t.Fatalf("%d skipped: %v", n, err)
		}
		if skipped == 0 {
			wantFull(t, l, 21)
		} else {
			wantFull(t, l, fullAt(all[skipped-1]))
		}
		wantTaken(t, l, first, ksn, all[skipped])
		wantFull(t, l, fullAt(all[skipped]))
	}
}

// P13.2: one that skips and one that takes as many have the same keys behind them,
// and skips come behind each other and between keys.
func TestSkipAndTake(t *testing.T) {
	first, ksn := [16]byte(seeded(16, 53)), [10]byte(seeded(10, 54))
	skips, takes := ladder.New(first, ksn), ladder.New(first, ksn)
	all, at := counted(), 0
	for _, n := range []int{1, -7, 2, 0, 30, 500, 489, 1, 1, 1, 1019, 3, 5001, 77} {
		if err := skips.Skip(n); err != nil {
			t.Fatal(err)
		}
		for range min(n, 5000) {
			if _, _, err := takes.Take(); err != nil {
				t.Fatal(err)
			}
			at++
		}
		wantTaken(t, skips, first, ksn, all[at])
		wantTaken(t, takes, first, ksn, all[at])
		at++
		wantFull(t, skips, takes.Full())
	}
}

// P13.2: where a terminal ends: as many keys as are left are passed over, and one
// fewer, without an error; one more is ErrSpent, and no key is left behind it.
func TestSkipToTheEnd(t *testing.T) {
	t.Parallel()
	first, ksn := [16]byte(seeded(16, 55)), [10]byte(seeded(10, 56))
	all := counted()
	far := ladder.New(first, ksn)
	at := len(all) - 10003
	skipFar(t, far, at)
	wantTaken(t, copied(far), first, ksn, all[at])
	for _, left := range []int{10002, 5001, 5000, 4999, 4998, 1000, 100, 12, 11, 10, 3, 2, 1, 0} {
		skipFar(t, far, len(all)-left-at)
		at = len(all) - left
		wantFull(t, far, fullAt(all[at-1]))
		for _, n := range []int{left - 1, left, left + 1, left + 2, left + 5000, 5000, 5001, math.MaxInt, 0, -1, math.MinInt} {
			checkSkip(t, copied(far), first, ksn, all[at:], n)
		}
	}
	wantEnd(t, far)
}

// checkSkip skips n keys of a terminal for which these counters are left.
func checkSkip(t *testing.T, l *ladder.Ladder, first [16]byte, ksn [10]byte, left []int, n int) {
	t.Helper()
	err := l.Skip(n)
	n = max(0, min(n, 5000))
	if n > len(left) {
		wantErrSpent(t, err)
		wantEnd(t, l)
		return
	}
	if err != nil {
		t.Fatalf("%d of %d skipped: %v", n, len(left), err)
	}
	if n == len(left) {
		wantEnd(t, l)
		return
	}
	wantTaken(t, l, first, ksn, left[n])
	wantFull(t, l, fullAt(left[n]))
}

// P13.2: a terminal that New didn't make has no counter left, and no key.
func TestMadeByNobody(t *testing.T) {
	var l ladder.Ladder
	wantEnd(t, &l)
	wantEnd(t, new(ladder.Ladder))
	wantEnd(t, &ladder.Ladder{})
}

// insideOf is all that something holds, its bytes as hexadecimal digits.
func insideOf(thing any) string { return fmt.Sprintf("%x", thing) }

// P13.3: neither the first key nor one that was taken stands anywhere in a terminal,
// and those that are still to be taken stand in it once each.
func TestKeysInside(t *testing.T) {
	for i, first := range firsts(t)[1:] {
		ksn := [10]byte(seeded(10, 60+int64(i)))
		l := ladder.New(first, ksn)
		gone := []string{hex.EncodeToString(first[:])}
		for counter := range 1100 {
			inside := insideOf(*l)
			for _, key := range gone {
				if strings.Contains(inside, key) {
					t.Fatalf("behind %x the terminal is %s, with the key %s", counter, inside, key)
				}
			}
			for place := range 21 {
				if counter>>place%2 == 1 || onesOf(counter>>place) == 10 {
					continue
				}
				key, err := dukpt.Derive(first, dukpt.At(ksn, counter>>place<<place+1<<place))
				if err != nil || strings.Count(inside, hex.EncodeToString(key[:])) != 1 {
					t.Fatalf("behind %x the terminal is %s, %v, without the key %x", counter, inside, err, key)
				}
			}
			key, _, err := l.Take()
			if err != nil {
				t.Fatal(err)
			}
			gone = append(gone, hex.EncodeToString(key[:]))
		}
	}
}

// Rule 5: what is handed in stays, what was answered stays when other keys are taken,
// and neither hangs on the other.
func TestArgumentsStay(t *testing.T) {
	first, ksn := [16]byte(seeded(16, 71)), dukpt.At([10]byte(seeded(10, 72)), 77)
	wasFirst, wasKsn := first, ksn
	l := ladder.New(first, ksn)
	key, number, err := l.Take()
	if err != nil || l.Skip(5) != nil || l.Full() == 0 || first != wasFirst || ksn != wasKsn {
		t.Fatalf("%x and %x were handed in, %x and %x are left, %v", wasFirst, wasKsn, first, ksn, err)
	}
	wasKey, wasNumber := key, number
	first, ksn = [16]byte{}, [10]byte{}
	wantTaken(t, l, wasFirst, wasKsn, 7)
	if key != wasKey || number != wasNumber {
		t.Errorf("what was answered became %x of %x", key, number)
	}
	for i := range key {
		key[i] = ^key[i]
	}
	for i := range number {
		number[i] = ^number[i]
	}
	for counter := 8; counter < 40; counter++ {
		wantTaken(t, l, wasFirst, wasKsn, counter)
	}
}

// Rule 6: two terminals of the same first key and number don't touch each other, and
// neither does one of another key.
func TestTerminalsApart(t *testing.T) {
	first, ksn := [16]byte(seeded(16, 81)), [10]byte(seeded(10, 82))
	one, two := ladder.New(first, ksn), ladder.New(first, ksn)
	other := ladder.New([16]byte(seeded(16, 83)), ksn)
	for counter := 1; counter <= 300; counter++ {
		wantTaken(t, one, first, ksn, counter)
	}
	wantFull(t, two, 21)
	wantTaken(t, two, first, ksn, 1)
	wantTaken(t, other, [16]byte(seeded(16, 83)), ksn, 1)
	if err := other.Skip(500); err != nil {
		t.Fatal(err)
	}
	for counter := 301; counter <= 400; counter++ {
		wantTaken(t, one, first, ksn, counter)
		wantTaken(t, two, first, ksn, counter-299)
	}
	wantFull(t, one, fullAt(400))
	wantFull(t, two, fullAt(101))
	wantTaken(t, other, [16]byte(seeded(16, 83)), ksn, 502)
	wantTaken(t, ladder.New(first, ksn), first, ksn, 1)
}

// P1: every call ends, and none panics, in whatever order they come.
func TestWhateverOrder(t *testing.T) {
	all := counted()
	r := rand.New(rand.NewSource(13))
	for range 60 {
		var first [16]byte
		var ksn [10]byte
		r.Read(first[:])
		r.Read(ksn[:])
		l, at := ladder.New(first, ksn), 0
		for range 30 {
			switch r.Intn(3) {
			case 0:
				wantTaken(t, l, first, ksn, all[at])
				at++
			case 1:
				n := r.Intn(80) - 20
				if err := l.Skip(n); err != nil {
					t.Fatal(err)
				}
				at += max(n, 0)
			default:
				counter := int(r.Uint64()) >> r.Intn(bits.UintSize)
				next, ok := ladder.Next(counter)
				if ok && (next <= counter || onesOf(next) > 10) || !ok && next != 0 {
					t.Fatalf("behind %x: %x, %v", counter, next, ok)
				}
			}
		}
	}
}
