package part_test

import (
	"bytes"
	libaes "crypto/aes"
	libdes "crypto/des"
	"encoding/hex"
	"errors"
	"math"
	"math/rand"
	"slices"
	"testing"

	"lockbox/api"
	"lockbox/part"
)

// lengths is those that keys of each kind have.
var lengths = map[int][]int{api.AES: {16, 24, 32}, api.TDES: {16, 24}}

// others is kinds that keys haven't: the oracle's, and such as there aren't.
var others = []int{api.Oracle, 0, -1, -2, 4, 5, 8, 257, 258, 1<<32 + 1, math.MinInt, math.MaxInt}

func filled(size int, with byte) []byte { return bytes.Repeat([]byte{with}, size) }

func seeded(size int, seed int64) []byte {
	all := make([]byte, size)
	rand.New(rand.NewSource(seed)).Read(all)
	return all
}

func unhex(t *testing.T, text string) []byte {
	t.Helper()
	b, err := hex.DecodeString(text)
	if err != nil {
		t.Fatal(err)
	}
	return b
}

// turned is a copy with one bit turned.
func turned(b []byte, place, bit int) []byte {
	other := bytes.Clone(b)
	other[place] ^= 1 << bit
	return other
}

// isOdd counts a byte's bits, one by one.
func isOdd(b byte) bool {
	count := 0
	for bit := range 8 {
		count += int(b) >> bit & 1
	}
	return count%2 == 1
}

// odd is the key made odd, by the chapter's words.
func odd(key []byte) []byte {
	made := bytes.Clone(key)
	for i := range made {
		if !isOdd(made[i]) {
			made[i] ^= 1
		}
	}
	return made
}

// together is what parts of a kind come to, by the chapter's words.
func together(kind int, parts ...[]byte) []byte {
	all := bytes.Clone(parts[0])
	for _, one := range parts[1:] {
		for i := range all {
			all[i] ^= one[i]
		}
	}
	if kind == api.TDES {
		return odd(all)
	}
	return all
}

// eachKey does something with some keys of each kind and length; those of TDES
// aren't odd but by chance.
func eachKey(do func(kind int, key []byte)) {
	for kind, sizes := range lengths {
		for _, size := range sizes {
			for seed := range int64(5) {
				do(kind, seeded(size, 100*seed+int64(size)))
			}
			do(kind, filled(size, 0))
			do(kind, filled(size, 0xff))
		}
	}
}

// wantKey wants bytes, and no error beside them.
func wantKey(t *testing.T, got []byte, err error, want []byte) {
	t.Helper()
	if err != nil || !bytes.Equal(got, want) {
		t.Errorf("it is %x, %v, want %x", got, err, want)
	}
}

// wantAlone wants an error that is a number without a place, and nothing beside
// it.
func wantAlone(t *testing.T, got []byte, err error, number api.Errno) {
	t.Helper()
	if !errors.Is(err, number) || api.Code(err) != int(number) || api.At(err) != -1 {
		t.Errorf("the error is %v at %d, want %d alone", err, api.At(err), int(number))
	}
	if len(got) != 0 {
		t.Errorf("%x stands beside an error", got)
	}
}

// wantFault wants a Fault of a number at a place, no other one behind it, and
// nothing beside it.
func wantFault(t *testing.T, got []byte, err error, number api.Errno, place int) {
	t.Helper()
	var fault, inner *api.Fault
	if !errors.As(err, &fault) || fault.At != place || errors.As(fault.Err, &inner) {
		t.Fatalf("the error is %v at %d, want one fault at %d", err, api.At(err), place)
	}
	if !errors.Is(err, number) || api.Code(err) != int(number) {
		t.Errorf("the error's number is %d, want %d", api.Code(err), int(number))
	}
	if len(got) != 0 {
		t.Errorf("%x stands beside an error", got)
	}
}

// P9.1, P9.2: keys of each length, of each kind: ErrSize alone, but of those that
// the kind has. One of 8 bytes is no key, as long as DES may be.
func TestEachLength(t *testing.T) {
	for kind, right := range lengths {
		for size := range 66 {
			key := filled(size, 1)
			value, err := part.Value(kind, key)
			if !slices.Contains(right, size) {
				wantAlone(t, nil, part.Right(kind, key), api.ErrSize)
				wantAlone(t, value, err, api.ErrSize)
				continue
			}
			if err := part.Right(kind, key); err != nil {
				t.Errorf("a key of %d bytes of the kind %d isn't right: %v", size, kind, err)
			}
			if err != nil || len(value) != 3 {
				t.Errorf("the value of a key of %d bytes of the kind %d is %x, %v", size, kind, value, err)
			}
		}
		wantAlone(t, nil, part.Right(kind, nil), api.ErrSize)
		value, err := part.Value(kind, nil)
		wantAlone(t, value, err, api.ErrSize)
	}
}

// P9.1, P9.2: other kinds, the oracle's among them, are told ahead of the length
// and the parity.
func TestOtherKinds(t *testing.T) {
	for _, kind := range others {
		for size := range 34 {
			for _, with := range []byte{0, 1} {
				key := filled(size, with)
				wantAlone(t, nil, part.Right(kind, key), api.ErrArg)
				value, err := part.Value(kind, key)
				wantAlone(t, value, err, api.ErrArg)
				joined, err := part.Join(kind, key, key)
				wantAlone(t, joined, err, api.ErrArg)
			}
		}
		wantAlone(t, nil, part.Right(kind, nil), api.ErrArg)
		value, err := part.Value(kind, nil)
		wantAlone(t, value, err, api.ErrArg)
	}
}

// P9.1: published keys of TDES are odd, and whatever AES's are is right.
func TestRight(t *testing.T) {
	for _, s := range []string{
		"0123456789abcdeffedcba9876543210",
		"0123456789abcdef23456789abcdef01456789abcdef0123",
		"01010101010101010101010101010101",
		"fefefefefefefefe0101010101010101",
	} {
		if err := part.Right(api.TDES, unhex(t, s)); err != nil {
			t.Errorf("%s isn't right: %v", s, err)
		}
	}
	eachKey(func(kind int, key []byte) {
		if err := part.Right(kind, odd(key)); err != nil {
			t.Errorf("%x of the kind %d isn't right: %v", odd(key), kind, err)
		}
		if kind != api.AES {
			return
		}
		for place := range key {
			for bit := range 8 {
				if err := part.Right(kind, turned(key, place, bit)); err != nil {
					t.Errorf("%x isn't right: %v", turned(key, place, bit), err)
				}
			}
		}
	})
}

// P9.1: one byte that isn't odd at each place, whichever of its bits is turned,
// alone and with others behind it.
func TestRightOfOneThatIsntOdd(t *testing.T) {
	for _, size := range lengths[api.TDES] {
		key := odd(seeded(size, 9))
		for place := range key {
			for bit := range 8 {
				wrong := turned(key, place, bit)
				wantFault(t, nil, part.Right(api.TDES, wrong), api.ErrParity, place)
				for behind := place + 1; behind < size; behind++ {
					wantFault(t, nil, part.Right(api.TDES, turned(wrong, behind, 3)), api.ErrParity, place)
				}
			}
		}
		wantFault(t, nil, part.Right(api.TDES, filled(size, 0)), api.ErrParity, 0)
	}
}

// P9.1: each of the 256 bytes, at each place of a key, is right or isn't.
func TestRightOfEachByte(t *testing.T) {
	for _, size := range lengths[api.TDES] {
		for place := range size {
			for b := range 256 {
				key := filled(size, 0x80)
				key[place] = byte(b)
				err := part.Right(api.TDES, key)
				if !isOdd(byte(b)) {
					wantFault(t, nil, err, api.ErrParity, place)
				} else if err != nil {
					t.Errorf("%x isn't right: %v", key, err)
				}
			}
		}
	}
}

// P9.1: a length that TDES hasn't is told ahead of bytes that aren't odd.
func TestLengthAheadOfParity(t *testing.T) {
	for _, size := range []int{1, 8, 15, 17, 23, 25, 32, 33} {
		wantAlone(t, nil, part.Right(api.TDES, filled(size, 0)), api.ErrSize)
	}
}

// P9.1: each of the 256 bytes made odd, and made odd again: only the lowest bit
// turns, and only where it must.
func TestOddOfEachByte(t *testing.T) {
	for b := range 256 {
		made := part.Odd([]byte{byte(b)})
		if len(made) != 1 || !isOdd(made[0]) || made[0]>>1 != byte(b)>>1 || isOdd(byte(b)) && made[0] != byte(b) {
			t.Errorf("%02x made odd is %x", b, made)
		}
		wantKey(t, part.Odd(made), nil, made)
	}
}

// P9.1: bytes of each length made odd, each at its own place, and right then if
// they are a key.
func TestOdd(t *testing.T) {
	for _, x := range []struct{ in, want string }{
		{"", ""},
		{"00", "01"},
		{"01", "01"},
		{"ff", "fe"},
		{"fe", "fe"},
		{"0003ff80", "0102fe80"},
		{"133457799bbcdff1", "133457799bbcdff1"},
		{"123456789abcdef0", "133457799bbcdff1"},
	} {
		wantKey(t, part.Odd(unhex(t, x.in)), nil, unhex(t, x.want))
	}
	wantKey(t, part.Odd(nil), nil, nil)
	for size := range 300 {
		key := seeded(size, int64(size))
		wantKey(t, part.Odd(key), nil, odd(key))
		if slices.Contains(lengths[api.TDES], size) {
			if err := part.Right(api.TDES, part.Odd(key)); err != nil {
				t.Errorf("%x made odd isn't right: %v", key, err)
			}
		}
	}
}

// P9.2: the chapter's example and known check values of TDES keys of 16 bytes; of
// the other keys OpenSSL told them, of the TDES ones and by its CMAC of the AES
// ones.
func TestKnownValues(t *testing.T) {
	for _, x := range []struct {
		kind      int
		key, want string
	}{
		{api.TDES, "00000000000000000000000000000000", "8ca64d"},
		{api.TDES, "000000000000000000000000000000000000000000000000", "8ca64d"},
		{api.TDES, "01010101010101010101010101010101", "8ca64d"},
		{api.TDES, "11111111111111111111111111111111", "82e136"},
		{api.TDES, "0123456789abcdef0123456789abcdef", "d5d44f"},
		{api.TDES, "0123456789abcdeffedcba9876543210", "08d7b4"},
		{api.TDES, "6ac292faa1315b4d858ab3a3d7d5933a", "af8c07"},
		{api.TDES, "0123456789abcdeffedcba987654321089abcdef01234567", "3fd539"},
		{api.TDES, "0123456789abcdef23456789abcdef01456789abcdef0123", "4eba73"},
		{api.AES, "00000000000000000000000000000000", "763cbc"},
		{api.AES, "000102030405060708090a0b0c0d0e0f", "be7ed6"},
		{api.AES, "2b7e151628aed2a6abf7158809cf4f3c", "7ad386"},
		{api.AES, "8e73b0f7da0e6452c810f32b809079e562f8ead2522c6b7b", "3a072a"},
		{api.AES, "603deb1015ca71be2b73aef0857d77811f352c073b6108d72d9810a30914dff4", "1a0b2d"},
	} {
		got, err := part.Value(x.kind, unhex(t, x.key))
		wantKey(t, got, err, unhex(t, x.want))
	}
}

// valueByWords is the check value, made with the library's ciphers.
func valueByWords(t *testing.T, kind int, key []byte) []byte {
	t.Helper()
	if kind == api.TDES {
		c, err := libdes.NewTripleDESCipher(append(bytes.Clone(key), key[:24-len(key)]...))
		if err != nil {
			t.Fatal(err)
		}
		out := make([]byte, 8)
		c.Encrypt(out, make([]byte, 8))
		return out[:3]
	}
	c, err := libaes.NewCipher(key)
	if err != nil {
		t.Fatal(err)
	}
	l := make([]byte, 16)
	c.Encrypt(l, l)
	// The code of a block of zeros is what L doubled is enciphered to.
	out, carry := make([]byte, 16), byte(0)
	for i := 15; i >= 0; i-- {
		out[i], carry = l[i]<<1|carry, l[i]>>7
	}
	out[15] ^= 0x87 * carry
	c.Encrypt(out, out)
	return out[:3]
}

// P9.2: check values of keys of each kind and length against the library's.
func TestValueAgainstLibrary(t *testing.T) {
	eachKey(func(kind int, key []byte) {
		for _, key := range [][]byte{key, odd(key)} {
			got, err := part.Value(kind, key)
			wantKey(t, got, err, valueByWords(t, kind, key))
		}
	})
}

// P9.2: the parity of a TDES key says nothing, one byte's or all bytes'; a lowest
// bit of an AES key does.
func TestValueAndParity(t *testing.T) {
	eachKey(func(kind int, key []byte) {
		value, err := part.Value(kind, key)
		if err != nil {
			t.Fatal(err)
		}
		for place := range key {
			got, err := part.Value(kind, turned(key, place, 0))
			if kind == api.TDES {
				wantKey(t, got, err, value)
			} else if err != nil || bytes.Equal(got, value) {
				t.Errorf("%x with a lowest bit turned has the value %x, %v", key, got, err)
			}
		}
		if kind == api.TDES {
			got, err := part.Value(kind, part.Odd(key))
			wantKey(t, got, err, value)
		}
	})
}

// P9.2: two and three parts of each kind and length.
func TestJoin(t *testing.T) {
	for _, x := range []struct {
		kind  int
		parts []string
		want  string
	}{
		{api.AES, []string{"0f0f0f0f0f0f0f0f0f0f0f0f0f0f0f0f", "f0f0f0f0f0f0f0f0f0f0f0f0f0f0f0f0"}, "ffffffffffffffffffffffffffffffff"},
		{api.TDES, []string{"0f0f0f0f0f0f0f0f0f0f0f0f0f0f0f0f", "f0f0f0f0f0f0f0f0f0f0f0f0f0f0f0f0"}, "fefefefefefefefefefefefefefefefe"},
		{api.AES, []string{"000102030405060708090a0b0c0d0e0f", "00112233445566778899aabbccddeeff", "ffffffffffffffffffffffffffffffff"}, "ffefdfcfbfaf9f8f7f6f5f4f3f2f1f0f"},
		{api.TDES, []string{"000102030405060708090a0b0c0d0e0f", "00112233445566778899aabbccddeeff", "ffffffffffffffffffffffffffffffff"}, "feefdfcebfae9e8f7f6e5e4f3e2f1f0e"},
	} {
		var parts [][]byte
		for _, s := range x.parts {
			parts = append(parts, unhex(t, s))
		}
		got, err := part.Join(x.kind, parts...)
		wantKey(t, got, err, unhex(t, x.want))
	}
	eachKey(func(kind int, key []byte) {
		a, b := seeded(len(key), 71), seeded(len(key), 72)
		got, err := part.Join(kind, key, a)
		wantKey(t, got, err, together(kind, key, a))
		got, err = part.Join(kind, key, a, b)
		wantKey(t, got, err, together(kind, key, a, b))
		if err := part.Right(kind, got); err != nil {
			t.Errorf("what is put together isn't right: %v", err)
		}
	})
}

// P9.2: no part, one, four and more, of right lengths and of others, of each kind
// and of kinds that there aren't.
func TestOtherNumbersOfParts(t *testing.T) {
	for _, kind := range append([]int{api.AES, api.TDES}, others...) {
		got, err := part.Join(kind)
		wantAlone(t, got, err, api.ErrArg)
		got, err = part.Join(kind, nil)
		wantAlone(t, got, err, api.ErrArg)
		for _, many := range []int{0, 1, 4, 5, 6, 1000} {
			for _, size := range []int{0, 8, 16, 24, 32, 33} {
				parts := slices.Repeat([][]byte{filled(size, 1)}, many)
				got, err := part.Join(kind, parts...)
				wantAlone(t, got, err, api.ErrArg)
				if many > 1 {
					parts[many-1] = filled(size+8, 1)
					got, err = part.Join(kind, parts...)
					wantAlone(t, got, err, api.ErrArg)
				}
			}
		}
	}
}

// placeByWords is the first part that is of another length than the first one's,
// or of no key's; -1: there is none.
func placeByWords(kind int, sizes []int) int {
	return slices.IndexFunc(sizes, func(size int) bool {
		return size != sizes[0] || !slices.Contains(lengths[kind], size)
	})
}

// P9.2: two and three parts of all lengths, alike and unlike: the fault tells the
// first one's place; another kind is told ahead of it.
func TestLengthsOfParts(t *testing.T) {
	some := []int{0, 1, 7, 8, 15, 16, 17, 23, 24, 25, 31, 32, 33, 48}
	try := func(sizes ...int) {
		t.Helper()
		var parts [][]byte
		for i, size := range sizes {
			parts = append(parts, filled(size, byte(1)<<i))
		}
		for kind := range lengths {
			got, err := part.Join(kind, parts...)
			if place := placeByWords(kind, sizes); place >= 0 {
				wantFault(t, got, err, api.ErrSize, place)
			} else {
				wantKey(t, got, err, together(kind, parts...))
			}
		}
		for _, kind := range others {
			got, err := part.Join(kind, parts...)
			wantAlone(t, got, err, api.ErrArg)
		}
	}
	for _, a := range some {
		for _, b := range some {
			try(a, b)
			for _, c := range some {
				try(a, b, c)
			}
		}
	}
}

// P9.2: places of some lengths, written out.
func TestPlacesOfParts(t *testing.T) {
	for _, x := range []struct {
		kind  int
		sizes []int
		place int
	}{
		{api.AES, []int{16, 24}, 1},
		{api.AES, []int{24, 16}, 1},
		{api.AES, []int{8, 16}, 0},
		{api.AES, []int{0, 0}, 0},
		{api.AES, []int{32, 32, 16}, 2},
		{api.AES, []int{32, 16, 32}, 1},
		{api.AES, []int{16, 32, 32}, 1},
		{api.AES, []int{33, 33, 33}, 0},
		{api.TDES, []int{32, 32}, 0},
		{api.TDES, []int{8, 8}, 0},
		{api.TDES, []int{8, 16, 16}, 0},
		{api.TDES, []int{16, 8, 16}, 1},
		{api.TDES, []int{16, 16, 8}, 2},
		{api.TDES, []int{24, 24, 32}, 2},
		{api.TDES, []int{24, 0, 8}, 1},
		{api.TDES, []int{16, 16, 0}, 2},
	} {
		var parts [][]byte
		for _, size := range x.sizes {
			parts = append(parts, seeded(size, 3))
		}
		got, err := part.Join(x.kind, parts...)
		wantFault(t, got, err, api.ErrSize, x.place)
	}
	for kind := range lengths {
		got, err := part.Join(kind, nil, nil)
		wantFault(t, got, err, api.ErrSize, 0)
		got, err = part.Join(kind, filled(16, 1), nil)
		wantFault(t, got, err, api.ErrSize, 1)
	}
}

// P9.3: the order of two and of three parts says nothing.
func TestOrderSaysNothing(t *testing.T) {
	eachKey(func(kind int, a []byte) {
		b, c := seeded(len(a), 81), seeded(len(a), 82)
		two, three := together(kind, a, b), together(kind, a, b, c)
		for _, parts := range [][][]byte{{a, b}, {b, a}} {
			got, err := part.Join(kind, parts...)
			wantKey(t, got, err, two)
		}
		for _, parts := range [][][]byte{{a, b, c}, {a, c, b}, {b, a, c}, {b, c, a}, {c, a, b}, {c, b, a}} {
			got, err := part.Join(kind, parts...)
			wantKey(t, got, err, three)
		}
	})
}

// P9.3: a bit turned in each place of each part makes another key, with that bit
// turned; but for the lowest ones of TDES, with which the key is the same.
func TestABitOfAPart(t *testing.T) {
	for kind, sizes := range lengths {
		for _, size := range sizes {
			for _, many := range []int{2, 3} {
				for which := range many {
					wantBitsTell(t, kind, size, many, which)
				}
			}
		}
	}
}

// wantBitsTell turns each bit of one of many parts.
func wantBitsTell(t *testing.T, kind, size, many, which int) {
	t.Helper()
	var parts [][]byte
	for i := range many {
		parts = append(parts, seeded(size, 90+int64(i)))
	}
	key, err := part.Join(kind, parts...)
	wantKey(t, key, err, together(kind, parts...))
	for place := range size {
		for bit := range 8 {
			changed := slices.Clone(parts)
			changed[which] = turned(parts[which], place, bit)
			got, err := part.Join(kind, changed...)
			want := turned(key, place, bit)
			if kind == api.TDES {
				want = odd(want)
			}
			wantKey(t, got, err, want)
			if same := kind == api.TDES && bit == 0; bytes.Equal(got, key) != same {
				t.Errorf("with the bit %d of byte %d of part %d turned the key is %x, and was %x", bit, place, which, got, key)
			}
		}
	}
}

// P9.3: a right key, put together of itself and another one twice, wherever it
// stands, is itself; and there and back over another one.
func TestAnotherOneTwice(t *testing.T) {
	eachKey(func(kind int, key []byte) {
		if kind == api.TDES {
			key = odd(key)
		}
		for _, other := range [][]byte{seeded(len(key), 61), odd(seeded(len(key), 62)), filled(len(key), 0), filled(len(key), 0xff), key} {
			for _, parts := range [][][]byte{{key, other, other}, {other, key, other}, {other, other, key}} {
				got, err := part.Join(kind, parts...)
				wantKey(t, got, err, key)
			}
			there, err := part.Join(kind, key, other)
			if err != nil {
				t.Fatal(err)
			}
			got, err := part.Join(kind, there, other)
			wantKey(t, got, err, key)
		}
	})
}

// roomy is bytes with others behind them in the caller's memory, and all of
// these.
func roomy(b []byte) ([]byte, []byte) {
	all := append(bytes.Clone(b), filled(64, 0xee)...)
	return all[:len(b)], all
}

// P9.4: what is handed in stays, with what stands behind it, beside errors too;
// answers hang on no room behind it.
func TestHandedInStays(t *testing.T) {
	for kind := range 5 {
		for _, size := range []int{0, 8, 16, 17, 24, 32, 33} {
			a, behindA := roomy(seeded(size, 1))
			b, behindB := roomy(seeded(size, 2))
			keptA, keptB := bytes.Clone(behindA), bytes.Clone(behindB)
			part.Right(kind, a)
			part.Value(kind, a)
			made := part.Odd(a)
			wantKey(t, made, nil, odd(seeded(size, 1)))
			clear(made[:cap(made)])
			list := [][]byte{a, b, a, b}
			for many := range len(list) + 1 {
				joined, err := part.Join(kind, list[:many]...)
				if err == nil {
					wantKey(t, joined, err, together(kind, list[:many]...))
				}
				clear(joined[:cap(joined)])
			}
			part.Join(kind, a, b[:size/2])
			if !bytes.Equal(behindA, keptA) || !bytes.Equal(behindB, keptB) {
				t.Errorf("keys of %d bytes of the kind %d are changed", size, kind)
			}
			for i, want := range [][]byte{a, b, a, b} {
				if len(list[i]) != size || size > 0 && &list[i][0] != &want[0] {
					t.Errorf("part %d of the list is another one", i)
				}
			}
		}
	}
}

// P9.4: a list's pieces of one memory, over one another, are parts like others.
func TestPartsOfOneMemory(t *testing.T) {
	for kind := range lengths {
		all := seeded(40, 4)
		kept := bytes.Clone(all)
		got, err := part.Join(kind, all[:24], all[8:32], all[16:])
		wantKey(t, got, err, together(kind, kept[:24], kept[8:32], kept[16:]))
		if !bytes.Equal(all, kept) {
			t.Error("the parts are changed")
		}
	}
}

// P9.4: with what was handed in, or an answer, changed then, what was answered is
// as it was, and so is what is answered next.
func TestAnswersAreNew(t *testing.T) {
	eachKey(func(kind int, first []byte) {
		key, other := bytes.Clone(first), seeded(len(first), 51)
		for _, ask := range []func() ([]byte, error){
			func() ([]byte, error) { return part.Odd(key), nil },
			func() ([]byte, error) { return part.Value(kind, key) },
			func() ([]byte, error) { return part.Join(kind, key, other) },
			func() ([]byte, error) { return part.Join(kind, key, other, other) },
			func() ([]byte, error) { return part.Join(kind, make([]byte, len(key)), key) },
		} {
			one, err := ask()
			if err != nil {
				t.Fatal(err)
			}
			kept := bytes.Clone(one)
			two, err := ask()
			wantKey(t, two, err, kept)
			clear(two[:cap(two)])
			wantKey(t, one, nil, kept)
			clear(key)
			clear(other)
			wantKey(t, one, nil, kept)
			copy(key, first)
			copy(other, seeded(len(first), 51))
			clear(one[:cap(one)])
			if !bytes.Equal(key, first) || !bytes.Equal(other, seeded(len(first), 51)) {
				t.Error("what is answered shares memory with what was handed in")
			}
			three, err := ask()
			wantKey(t, three, err, kept)
		}
	})
}

// P1: lists and keys of great length end, and panic nowhere.
func TestGreatOnes(t *testing.T) {
	great := make([]byte, 1<<20)
	if got := part.Odd(great); !bytes.Equal(got, filled(1<<20, 1)) {
		t.Error("a great key isn't made odd")
	}
	for kind := range lengths {
		wantAlone(t, nil, part.Right(kind, great), api.ErrSize)
		value, err := part.Value(kind, great)
		wantAlone(t, value, err, api.ErrSize)
		got, err := part.Join(kind, great, great)
		wantFault(t, got, err, api.ErrSize, 0)
		got, err = part.Join(kind, filled(16, 1), great, great)
		wantFault(t, got, err, api.ErrSize, 1)
		got, err = part.Join(kind, make([][]byte, 1<<20)...)
		wantAlone(t, got, err, api.ErrArg)
	}
}
