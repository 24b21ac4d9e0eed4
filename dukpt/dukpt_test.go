package dukpt_test

import (
	"bytes"
	libdes "crypto/des"
	"encoding/hex"
	"errors"
	"math"
	"math/big"
	"math/bits"
	"math/rand"
	"slices"
	"strconv"
	"testing"

	"lockbox/api"
	"lockbox/dukpt"
)

// largest is the largest counter of 21 bits.
const largest = 1<<21 - 1

func unhex(t *testing.T, text string) []byte {
	t.Helper()
	b, err := hex.DecodeString(text)
	if err != nil {
		t.Fatal(err)
	}
	return b
}

func keyOf(t *testing.T, text string) [16]byte {
	t.Helper()
	return [16]byte(unhex(t, text))
}

func numberOf(t *testing.T, text string) [10]byte {
	t.Helper()
	return [10]byte(unhex(t, text))
}

func filled(size int, with byte) []byte { return bytes.Repeat([]byte{with}, size) }

func seeded(size int, seed int64) []byte {
	all := make([]byte, size)
	rand.New(rand.NewSource(seed)).Read(all)
	return all
}

// The chapter's words once more: numbers reckoned with as such, and the library's
// ciphers.

// counterOf is a number's counter.
func counterOf(ksn [10]byte) int {
	rest := new(big.Int).SetBytes(ksn[:])
	return int(rest.Mod(rest, big.NewInt(1<<21)).Int64())
}

// numberAt is a number with another counter: what the number has more than its
// own one, and what is left of the new one by 2^21.
func numberAt(ksn [10]byte, counter int) [10]byte {
	all := new(big.Int).SetBytes(ksn[:])
	all.Sub(all, big.NewInt(int64(counterOf(ksn))))
	// Mod is never below 0.
	all.Add(all, new(big.Int).Mod(big.NewInt(int64(counter)), big.NewInt(1<<21)))
	return [10]byte(all.FillBytes(make([]byte, 10)))
}

// xor is a turned by b, of which the first bytes count.
func xor(a, b []byte) []byte {
	all := bytes.Clone(a)
	for i := range all {
		all[i] ^= b[i]
	}
	return all
}

// theMask is the chapter's.
var theMask = []byte{0xc0, 0xc0, 0xc0, 0xc0, 0, 0, 0, 0, 0xc0, 0xc0, 0xc0, 0xc0, 0, 0, 0, 0}

// triple is a block enciphered with TDES and a key of 16 bytes.
func triple(key, block []byte) []byte {
	c, err := libdes.NewTripleDESCipher(slices.Concat(key, key[:8]))
	if err != nil {
		panic(err)
	}
	all := make([]byte, 8)
	c.Encrypt(all, block)
	return all
}

// single is a block enciphered with DES.
func single(key, block []byte) []byte {
	c, err := libdes.NewCipher(key)
	if err != nil {
		panic(err)
	}
	all := make([]byte, 8)
	c.Encrypt(all, block)
	return all
}

// firstOf is a terminal's first key.
func firstOf(base []byte, ksn [10]byte) [16]byte {
	bare := numberAt(ksn, 0)
	return [16]byte(slices.Concat(triple(base, bare[:8]), triple(xor(base, theMask), bare[:8])))
}

// stepOf is a step.
func stepOf(key [16]byte, x []byte) [16]byte {
	l, r := key[:8], key[8:]
	right := xor(single(l, xor(x, r)), r)
	l, r = xor(l, theMask), xor(r, theMask)
	left := xor(single(l, xor(x, r)), r)
	return [16]byte(slices.Concat(left, right))
}

// derived is a number's key, of a first key: the bits that are 1 are taken from
// the counter as a number, the highest first.
func derived(first [16]byte, ksn [10]byte) [16]byte {
	left, ahead, key := counterOf(ksn), 0, first
	for left > 0 {
		bit := 1 << (bits.Len(uint(left)) - 1)
		left, ahead = left-bit, ahead+bit
		number := numberAt(ksn, ahead)
		key = stepOf(key, number[2:])
	}
	return key
}

// bases is base keys: right ones, and keys whose halves are alike, or that aren't
// odd.
func bases(t *testing.T) [][]byte {
	all := [][]byte{unhex(t, "0123456789abcdeffedcba9876543210"), filled(16, 0), filled(16, 0xff), filled(16, 0xc0), theMask}
	for seed := range int64(8) {
		all = append(all, seeded(16, seed))
	}
	return append(all, bytes.Repeat(seeded(8, 8), 2))
}

// numbers is numbers whose other bits than the counter's, and the counter's too,
// are all 0, all 1 and mixed.
func numbers(t *testing.T) [][10]byte {
	all := [][10]byte{
		numberOf(t, "00000000000000000000"), numberOf(t, "000000000000001fffff"),
		numberOf(t, "ffffffffffffffe00000"), numberOf(t, "ffffffffffffffffffff"),
		numberOf(t, "ffff9876543210e00000"), numberOf(t, "ffff9876543210e00001"),
		numberOf(t, "aaaaaaaaaaaaaaaaaaaa"), numberOf(t, "55555555555555555555"),
		numberOf(t, "00000000000000200000"), numberOf(t, "80000000000000000001"),
		numberOf(t, "00000000000000e00000"), numberOf(t, "ffffffffffffff1fffff"),
	}
	for seed := range int64(8) {
		all = append(all, [10]byte(seeded(10, 100+seed)))
	}
	return all
}

// counters is counters of 21 bits, none handed in wrong: 0, 1, each single bit, the
// ones beside it, the largest, and others.
func counters() []int {
	all := []int{0, 1, 2, 3, 0xff, 0x100, 0xffff, 0x10000, 0x10001, largest, largest - 1, 0x155555, 0xaaaaa}
	for place := range 21 {
		all = append(all, 1<<place, 1<<place-1, 1<<place+1, largest^1<<place)
	}
	r := rand.New(rand.NewSource(1))
	for range 40 {
		all = append(all, r.Intn(largest+1))
	}
	return all
}

// others is counters that have more than 21 bits, or are below 0.
func others() []int {
	all := []int{-1, -2, -3, -255, -256, -257, -65536, -65537, math.MinInt, math.MinInt + 1, math.MinInt + largest, math.MaxInt, math.MaxInt - 1, math.MaxInt - largest, largest + 1, largest + 2, 1<<22 - 1, 5<<21 + 77, -largest, -largest - 1, -largest - 2, math.MaxInt32, math.MinInt32}
	for place := range bits.UintSize - 1 {
		all = append(all, 1<<place, -1<<place, 1<<place|0x123, -1<<place|5)
	}
	r := rand.New(rand.NewSource(2))
	for range 40 {
		all = append(all, int(r.Uint64()))
	}
	return all
}

// fewBits is counters with so many bits that are 1.
func fewBits(ones, many int) []int {
	r := rand.New(rand.NewSource(int64(ones)))
	all := []int{1<<ones - 1, (1<<ones - 1) << (21 - ones)}
	for range many {
		counter := 0
		for _, place := range r.Perm(21)[:ones] {
			counter |= 1 << place
		}
		all = append(all, counter)
	}
	return all
}

func wantAlone(t *testing.T, name string, got [16]byte, err error, number api.Errno) {
	t.Helper()
	if !errors.Is(err, number) || api.Code(err) != int(number) || api.At(err) != -1 {
		t.Fatalf("%s: the error is %d at %d, want %d alone", name, api.Code(err), api.At(err), int(number))
	}
	if got != [16]byte{} {
		t.Fatalf("%s: beside the error stands %x", name, got)
	}
}

// P12.1: the counter is a number's last 21 bits, whatever stands ahead of them.
func TestCounter(t *testing.T) {
	for _, c := range []struct {
		ksn  string
		want int
	}{
		{"ffff9876543210e00001", 1},
		{"ffff9876543210e00000", 0},
		{"ffff9876543210ffffff", largest},
		{"000000000000001fffff", largest},
		{"ffffffffffffffe00000", 0},
		{"ffffffffffffff200000", 0},
		{"00000000000000100000", 1 << 20},
		{"00000000000000010000", 1 << 16},
		{"00000000000000008000", 1 << 15},
		{"00000000000000000100", 1 << 8},
		{"00000000000000000080", 1 << 7},
		{"00000000000000f23456", 0x123456},
	} {
		if got := dukpt.Counter(numberOf(t, c.ksn)); got != c.want {
			t.Errorf("%s: the counter is %x, want %x", c.ksn, got, c.want)
		}
	}
	for _, ksn := range numbers(t) {
		if got := dukpt.Counter(ksn); got != counterOf(ksn) {
			t.Errorf("%x: the counter is %x, want %x", ksn, got, counterOf(ksn))
		}
		for _, counter := range counters() {
			if got := dukpt.Counter(numberAt(ksn, counter)); got != counter {
				t.Errorf("%x with %x: the counter is %x", ksn, counter, got)
			}
		}
	}
}

// P12.1: each bit of a number counts in its counter as its place says, or, ahead of
// the last 21, not at all.
func TestCounterOfEachBit(t *testing.T) {
	for place := range 80 {
		var ksn [10]byte
		ksn[9-place/8] = 1 << (place % 8)
		want := 0
		if place < 21 {
			want = 1 << place
		}
		if got := dukpt.Counter(ksn); got != want {
			t.Errorf("bit %d: the counter is %x, want %x", place, got, want)
		}
		for i := range ksn {
			ksn[i] = ^ksn[i]
		}
		if got := dukpt.Counter(ksn); got != largest-want {
			t.Errorf("all but bit %d: the counter is %x, want %x", place, got, largest-want)
		}
	}
}

// P12.1: At sets the counter and leaves what stands ahead of it, of right counters.
func TestAt(t *testing.T) {
	for _, c := range []struct {
		ksn     string
		counter int
		want    string
	}{
		{"ffff9876543210e00000", 1, "ffff9876543210e00001"},
		{"ffff9876543210e00000", 0x1fffff, "ffff9876543210ffffff"},
		{"ffff9876543210ffffff", 0, "ffff9876543210e00000"},
		{"00000000000000000000", 0x123456, "00000000000000123456"},
		{"ffffffffffffffffffff", 0x123456, "fffffffffffffff23456"},
		{"ffffffffffffffffffff", 0x200000, "ffffffffffffffe00000"},
		{"00000000000000000000", 0x200000, "00000000000000000000"},
		{"00000000000000000000", -1, "000000000000001fffff"},
		{"00000000000000000000", -2, "000000000000001ffffe"},
		{"ffffffffffffff000000", math.MinInt, "ffffffffffffff000000"},
		{"00000000000000a00000", math.MaxInt, "00000000000000bfffff"},
	} {
		if got := dukpt.At(numberOf(t, c.ksn), c.counter); got != numberOf(t, c.want) {
			t.Errorf("%s with %x: %x, want %s", c.ksn, c.counter, got, c.want)
		}
	}
	for _, ksn := range numbers(t) {
		for _, counter := range counters() {
			got := dukpt.At(ksn, counter)
			if got != numberAt(ksn, counter) {
				t.Fatalf("%x with %x: %x", ksn, counter, got)
			}
			if dukpt.Counter(got) != counter || dukpt.At(got, dukpt.Counter(ksn)) != ksn {
				t.Fatalf("%x with %x: %x doesn't lead back", ksn, counter, got)
			}
		}
	}
}

// P12.1: of counters that are below 0 or have more bits the lowest 21 bits count,
// and the number's other bits stay.
func TestAtOfOthers(t *testing.T) {
	for _, ksn := range numbers(t) {
		for _, counter := range others() {
			got := dukpt.At(ksn, counter)
			if got != numberAt(ksn, counter) {
				t.Fatalf("%x with %x: %x, want %x", ksn, counter, got, numberAt(ksn, counter))
			}
			if dukpt.Counter(got) != counter&largest || !bytes.Equal(got[:7], ksn[:7]) || got[7]>>5 != ksn[7]>>5 {
				t.Fatalf("%x with %x: %x", ksn, counter, got)
			}
		}
	}
}

// P12.1: a terminal's first key, the chapter's example, and the same by the
// chapter's words with the library's TDES.
func TestFirst(t *testing.T) {
	base := unhex(t, "0123456789abcdeffedcba9876543210")
	got, err := dukpt.First(base, numberOf(t, "ffff9876543210e00001"))
	if err != nil || got != keyOf(t, "6ac292faa1315b4d858ab3a3d7d5933a") {
		t.Fatalf("the first key is %x, %v", got, err)
	}
	for _, base := range bases(t) {
		for _, ksn := range numbers(t) {
			got, err := dukpt.First(base, ksn)
			if err != nil || got != firstOf(base, ksn) {
				t.Fatalf("%x of %x: the first key is %x, %v, want %x", base, ksn, got, err, firstOf(base, ksn))
			}
		}
	}
}

// P12.1: a base key of another length than 16 bytes is ErrSize alone, and has no
// first key.
func TestFirstOfLengths(t *testing.T) {
	for _, ksn := range numbers(t) {
		for size := range 34 {
			if size == 16 {
				continue
			}
			for _, base := range [][]byte{filled(size, 0), seeded(size, int64(size)), seeded(40, 3)[:size]} {
				got, err := dukpt.First(base, ksn)
				wantAlone(t, "a base key of "+strconv.Itoa(size)+" bytes", got, err, api.ErrSize)
			}
		}
		got, err := dukpt.First(nil, ksn)
		wantAlone(t, "nil", got, err, api.ErrSize)
		got, err = dukpt.First(seeded(1<<12, 1), ksn)
		wantAlone(t, "a long base key", got, err, api.ErrSize)
	}
}

// P12.1: the first key hangs on the number without its counter, and on each bit
// of that.
func TestFirstOfUnlikeNumbers(t *testing.T) {
	base := seeded(16, 5)
	for _, ksn := range numbers(t) {
		first, err := dukpt.First(base, ksn)
		if err != nil {
			t.Fatal(err)
		}
		for place := range 80 {
			other := ksn
			other[9-place/8] ^= 1 << (place % 8)
			got, err := dukpt.First(base, other)
			if err != nil || (got == first) != (place < 21) {
				t.Errorf("%x, bit %d turned: the first key is %x, %v, and was %x", ksn, place, got, err, first)
			}
		}
		for _, counter := range counters() {
			if got, err := dukpt.First(base, numberAt(ksn, counter)); err != nil || got != first {
				t.Errorf("%x with %x: the first key is %x, %v, want %x", ksn, counter, got, err, first)
			}
		}
	}
}

// P12.1: a step, each half by hand with the library's DES.
func TestStep(t *testing.T) {
	// Of a key of zeros and of zeros the right half is DES of zeros with zeros.
	zeros := dukpt.Step([16]byte{}, [8]byte{})
	if !bytes.Equal(zeros[8:], unhex(t, "8ca64de9c1b123a7")) {
		t.Errorf("a step of zeros is %x", zeros)
	}
	// With the key turned by the mask ahead of it, the halves change places.
	if turned := dukpt.Step([16]byte(theMask), [8]byte{}); !bytes.Equal(turned[:8], zeros[8:]) || !bytes.Equal(turned[8:], zeros[:8]) {
		t.Errorf("a step of the mask is %x, want the halves of %x", turned, zeros)
	}
	for i, base := range bases(t) {
		for seed := range int64(20) {
			key, x := [16]byte(base), [8]byte(seeded(8, 20*int64(i)+seed))
			if got := dukpt.Step(key, x); got != stepOf(key, x[:]) {
				t.Fatalf("a step of %x with %x is %x, want %x", key, x, got, stepOf(key, x[:]))
			}
		}
	}
	for seed := range int64(300) {
		all := seeded(24, 1000+seed)
		if got := dukpt.Step([16]byte(all), [8]byte(all[16:])); got != stepOf([16]byte(all), all[16:]) {
			t.Fatalf("a step of %x is %x, want %x", all, got, stepOf([16]byte(all), all[16:]))
		}
	}
}

// P12.1: a step from the first key is the key of the counter 1.
func TestStepFromFirst(t *testing.T) {
	got := dukpt.Step(keyOf(t, "6ac292faa1315b4d858ab3a3d7d5933a"), [8]byte(unhex(t, "9876543210e00001")))
	if got != keyOf(t, "042666b49184cfa368de9628d0397bc9") {
		t.Errorf("the step is %x", got)
	}
}

// P12.2: the chapter's example, and keys of later counters of the same base key and
// number, as X9.24-1 publishes them: of some the key itself, of some its variant for
// PINs. Those behind the counter 3 are written down from memory: that they fit in all
// their bytes says that they were remembered right.
func TestDeriveOfPublished(t *testing.T) {
	ksn := numberOf(t, "ffff9876543210e00000")
	first, err := dukpt.First(unhex(t, "0123456789abcdeffedcba9876543210"), ksn)
	if err != nil {
		t.Fatal(err)
	}
	for _, c := range []struct {
		counter      int
		key, forPins string
	}{
		{counter: 0, key: "6ac292faa1315b4d858ab3a3d7d5933a"},
		{counter: 1, key: "042666b49184cfa368de9628d0397bc9", forPins: "042666b49184cf5c68de9628d0397b36"},
		{counter: 2, key: "c46551cef9fd24b0aa9ad834130d3bc7"},
		{counter: 3, key: "0df3d9422aca56e547676d07ad6badfa"},
		{counter: 4, key: "279c0f6aeed0be652b2c733e1383ae91"},
		{counter: 5, key: "5f8dc6d2c845c125508ddc048093b83f"},
		{counter: 7, forPins: "0c8f780b7c8b492fae84a9eb2a6ce69f"},
		{counter: 10, key: "6cf2500a22507c7cc776ceadc1e33014"},
		{counter: 0xff800, forPins: "f9cdfebf4f5b1d61b3ec12454527e189"},
	} {
		key, err := dukpt.Derive(first, dukpt.At(ksn, c.counter))
		if err != nil || c.key != "" && key != keyOf(t, c.key) {
			t.Errorf("%x: the key is %x, %v, want %s", c.counter, key, err, c.key)
		}
		forPins, err := dukpt.Variant(key, 1)
		if err != nil || c.forPins != "" && forPins != keyOf(t, c.forPins) {
			t.Errorf("%x: the variant for PINs is %x, %v, want %s", c.counter, forPins, err, c.forPins)
		}
	}
}

// P12.2: the key of a number of whatever counter with ten bits at most, by the
// chapter's words.
func TestDerive(t *testing.T) {
	for i, ksn := range numbers(t) {
		first := [16]byte(seeded(16, int64(i)))
		for _, counter := range counters() {
			number := numberAt(ksn, counter)
			got, err := dukpt.Derive(first, number)
			if bits.OnesCount(uint(counter)) > 10 {
				wantAlone(t, "a spent counter", got, err, api.ErrSpent)
				continue
			}
			if err != nil || got != derived(first, number) {
				t.Fatalf("%x of %x: the key is %x, %v, want %x", number, first, got, err, derived(first, number))
			}
		}
	}
}

// P12.2: with as many bits that are 1 as may be there is a key, with more there is
// none; the bits ahead of the counter aren't reckoned among them.
func TestDeriveOfManyBits(t *testing.T) {
	first := [16]byte(seeded(16, 1))
	for _, ksn := range numbers(t) {
		for ones := range 22 {
			for _, counter := range fewBits(ones, 5) {
				number := numberAt(ksn, counter)
				got, err := dukpt.Derive(first, number)
				if ones > 10 {
					wantAlone(t, "a spent counter", got, err, api.ErrSpent)
				} else if err != nil || got != derived(first, number) {
					t.Fatalf("%x: the key is %x, %v, want %x", number, got, err, derived(first, number))
				}
			}
		}
	}
}

// P12.2: all counters with more than ten bits that are 1 are spent.
func TestDeriveOfAllSpent(t *testing.T) {
	ksn := numberOf(t, "0123456789abcd000000")
	for counter := range largest + 1 {
		if bits.OnesCount(uint(counter)) > 10 {
			if got, err := dukpt.Derive([16]byte{1}, dukpt.At(ksn, counter)); err != api.ErrSpent || got != [16]byte{} {
				t.Fatalf("%x: %x, %v", counter, got, err)
			}
		}
	}
}

// P12.2: the keys of unlike numbers are unlike: what stands ahead of the counter is
// in x too, but for the first two bytes.
func TestDeriveOfUnlike(t *testing.T) {
	first, ksn := [16]byte(seeded(16, 2)), [10]byte(seeded(10, 3))
	ksn = dukpt.At(ksn, 0x12345)
	key, err := dukpt.Derive(first, ksn)
	if err != nil {
		t.Fatal(err)
	}
	for place := range 80 {
		other := ksn
		other[9-place/8] ^= 1 << (place % 8)
		got, err := dukpt.Derive(first, other)
		if err != nil || (got == key) != (place >= 64) {
			t.Errorf("bit %d of the number turned: the key is %x, %v", place, got, err)
		}
	}
	seen := map[[16]byte]int{}
	for counter := range 2000 {
		got, err := dukpt.Derive(first, dukpt.At(ksn, counter))
		if before, ok := seen[got]; ok && err == nil {
			t.Errorf("the counters %d and %d have the same key", before, counter)
		}
		if err == nil {
			seen[got] = counter
		}
	}
}

// P12.2: each variant turns its own byte of each half by ff, and no other bit;
// turned once more it is the key.
func TestVariant(t *testing.T) {
	places := map[int][2]int{1: {7, 15}, 2: {6, 14}, 3: {4, 12}}
	keys := [][16]byte{{}, [16]byte(filled(16, 0xff)), keyOf(t, "042666b49184cfa368de9628d0397bc9")}
	for seed := range int64(20) {
		keys = append(keys, [16]byte(seeded(16, seed)))
	}
	for _, key := range keys {
		for what, at := range places {
			want := key
			want[at[0]], want[at[1]] = ^want[at[0]], ^want[at[1]]
			got, err := dukpt.Variant(key, what)
			if err != nil || got != want {
				t.Fatalf("%x, %d: the variant is %x, %v, want %x", key, what, got, err, want)
			}
			if back, err := dukpt.Variant(got, what); err != nil || back != key {
				t.Fatalf("%x, %d: the variant's variant is %x, %v", key, what, back, err)
			}
		}
	}
}

// P12.2: the chapter's example of a variant, and the others of that key.
func TestVariantOfPublished(t *testing.T) {
	key := keyOf(t, "042666b49184cfa368de9628d0397bc9")
	for what, want := range map[int]string{
		1: "042666b49184cf5c68de9628d0397b36",
		2: "042666b4918430a368de9628d03984c9",
		3: "042666b46e84cfa368de96282f397bc9",
	} {
		if got, err := dukpt.Variant(key, what); err != nil || got != keyOf(t, want) {
			t.Errorf("%d: the variant is %x, %v, want %s", what, got, err, want)
		}
	}
}

// P12.2: there is no other variant, be the number below or above those that there
// are, very large, or one whose lowest bits are a right one's.
func TestVariantOfOthers(t *testing.T) {
	whats := []int{0, 4, 5, 6, 7, 8, 10, 12, 16, 'P', math.MinInt, math.MaxInt, math.MinInt32, math.MaxInt32}
	for what := 1; what <= 3; what++ {
		whats = append(whats, -what, ^what, what+3, what+1<<2, what+1<<8, what+1<<16, what+1<<30, what+math.MinInt, math.MaxInt-what, what-256)
		for place := 2; place < bits.UintSize; place++ {
			whats = append(whats, what|1<<place, what|-1<<place)
		}
	}
	for what := -300; what <= 300; what++ {
		whats = append(whats, what)
	}
	for _, what := range whats {
		if what >= 1 && what <= 3 {
			continue
		}
		for _, key := range [][16]byte{{}, [16]byte(seeded(16, 4))} {
			got, err := dukpt.Variant(key, what)
			wantAlone(t, "a variant that isn't", got, err, api.ErrArg)
		}
	}
}

// P12.3: the counter 0 has the first key, whatever stands ahead of it.
func TestCounterNothing(t *testing.T) {
	for i, ksn := range numbers(t) {
		first := [16]byte(seeded(16, 40+int64(i)))
		if got, err := dukpt.Derive(first, dukpt.At(ksn, 0)); err != nil || got != first {
			t.Errorf("%x: the key of the counter 0 is %x, %v, want %x", ksn, got, err, first)
		}
	}
}

// P12.3: the key of a counter with one bit more, below all others, is a step from
// the key of that without it.
func TestOneBitMore(t *testing.T) {
	for i, ksn := range numbers(t) {
		first := [16]byte(seeded(16, 60+int64(i)))
		for ones := range 10 {
			for _, counter := range fewBits(ones, 3) {
				checkOneBitMore(t, first, dukpt.At(ksn, counter))
			}
		}
	}
}

// checkOneBitMore holds the keys of a number with each bit below its counter's
// lowest one against a step from its own.
func checkOneBitMore(t *testing.T, first [16]byte, ksn [10]byte) {
	t.Helper()
	key, err := dukpt.Derive(first, ksn)
	if err != nil {
		t.Fatalf("%x: %v", ksn, err)
	}
	counter := dukpt.Counter(ksn)
	for place := 0; place < 21 && counter&(1<<(place+1)-1) == 0; place++ {
		more := dukpt.At(ksn, counter|1<<place)
		got, err := dukpt.Derive(first, more)
		if want := dukpt.Step(key, [8]byte(more[2:])); err != nil || got != want {
			t.Fatalf("%x: the key is %x, %v, want a step from that of %x, %x", more, got, err, ksn, want)
		}
	}
}

// Rule 5: a base key stays, with what stands behind it in memory.
func TestBaseStays(t *testing.T) {
	all := seeded(64, 9)
	before := bytes.Clone(all)
	for size := range 34 {
		dukpt.First(all[:size], [10]byte(seeded(10, 1)))
	}
	if !bytes.Equal(all, before) {
		t.Errorf("what was handed in is %x, was %x", all, before)
	}
}

// Rule 5: keys and numbers that are handed in stay, and what was answered stays when
// they are changed, and when another call is made.
func TestAnswersStay(t *testing.T) {
	base, ksn, x := seeded(16, 1), [10]byte(seeded(10, 2)), [8]byte(seeded(8, 3))
	ksn = dukpt.At(ksn, 0x155)
	wasBase, wasKsn, wasX := bytes.Clone(base), ksn, x
	first, _ := dukpt.First(base, ksn)
	wasFirst := first
	step, at := dukpt.Step(first, x), dukpt.At(ksn, 99)
	key, _ := dukpt.Derive(first, ksn)
	variant, _ := dukpt.Variant(key, 2)
	wasKey := key
	dukpt.Counter(ksn)
	if !bytes.Equal(base, wasBase) || ksn != wasKsn || x != wasX || first != wasFirst || key != wasKey {
		t.Error("what was handed in was changed")
	}
	base[0], base[15], ksn[0], ksn[9], x[0], first[3], key[5] = ^base[0], ^base[15], ^ksn[0], ^ksn[9], ^x[0], ^first[3], ^key[5]
	dukpt.First(seeded(16, 7), [10]byte{})
	dukpt.Derive([16]byte{}, dukpt.At([10]byte{}, 3))
	dukpt.Variant([16]byte{}, 3)
	wantFirst := firstOf(wasBase, wasKsn)
	wantKey := derived(wantFirst, wasKsn)
	wantVariant := wantKey
	wantVariant[6], wantVariant[14] = ^wantVariant[6], ^wantVariant[14]
	if step != stepOf(wantFirst, wasX[:]) || at != numberAt(wasKsn, 99) || variant != wantVariant {
		t.Errorf("what was answered became %x, %x, %x", step, at, variant)
	}
}

// Rule 6: the same arguments have the same answers, whatever was asked between.
func TestSameAgain(t *testing.T) {
	for seed := range int64(50) {
		all := seeded(42, seed)
		base, ksn := all[:16], dukpt.At([10]byte(all[16:]), int(seed)*37)
		once, err := dukpt.First(base, ksn)
		key, keyErr := dukpt.Derive(once, ksn)
		dukpt.First(all[26:], [10]byte{})
		dukpt.Derive([16]byte(all[26:]), [10]byte{9: 7})
		again, againErr := dukpt.First(base, ksn)
		keyAgain, keyAgainErr := dukpt.Derive(once, ksn)
		if once != again || err != againErr || key != keyAgain || keyErr != keyAgainErr {
			t.Fatalf("%x: once %x, %x, again %x, %x", all, once, key, again, keyAgain)
		}
	}
}

// P1: every call ends, and none panics, whatever bytes and numbers come; beside an
// error stands zero.
func TestWhateverBytes(t *testing.T) {
	r := rand.New(rand.NewSource(12))
	for range 3000 {
		base := make([]byte, r.Intn(34))
		var key [16]byte
		var ksn [10]byte
		var x [8]byte
		for _, b := range [][]byte{base, key[:], ksn[:], x[:]} {
			r.Read(b)
		}
		number := int(r.Uint64()) >> r.Intn(bits.UintSize)
		first, firstErr := dukpt.First(base, ksn)
		derived, derivedErr := dukpt.Derive(key, ksn)
		variant, variantErr := dukpt.Variant(key, number)
		for _, c := range []struct {
			got   [16]byte
			err   error
			wrong bool
			want  error
		}{
			{first, firstErr, len(base) != 16, api.ErrSize},
			{derived, derivedErr, bits.OnesCount(uint(counterOf(ksn))) > 10, api.ErrSpent},
			{variant, variantErr, number < 1 || number > 3, api.ErrArg},
		} {
			if c.wrong && (c.err != c.want || c.got != [16]byte{}) || !c.wrong && c.err != nil {
				t.Fatalf("%x %x %x %x %d: %x, %v", base, key, ksn, x, number, c.got, c.err)
			}
		}
		if dukpt.Step(key, x) != stepOf(key, x[:]) || dukpt.Counter(dukpt.At(ksn, number)) != number&largest {
			t.Fatalf("%x %x %x %d", key, ksn, x, number)
		}
	}
}
