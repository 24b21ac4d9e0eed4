package block_test

import (
	"bytes"
	"crypto/des"
	"encoding/hex"
	"errors"
	"math"
	"math/rand"
	"slices"
	"testing"

	"lockbox/aes"
	"lockbox/api"
	"lockbox/block"
	ourdes "lockbox/des"
	"lockbox/tape"
)

var kinds = []int{api.AES, api.TDES, api.Oracle}

func filled(size int, with byte) []byte {
	return bytes.Repeat([]byte{with}, size)
}

func counted(size int) []byte {
	all := make([]byte, size)
	for i := range all {
		all[i] = byte(i + 1)
	}
	return all
}

func seeded(size int, seed int64) []byte {
	all := make([]byte, size)
	rand.New(rand.NewSource(seed)).Read(all)
	return all
}

func unhex(t *testing.T, text string) []byte {
	t.Helper()
	b, err := hex.DecodeString(text)
	if err != nil {
		t.Fatal(err)
	}
	return b
}

func laid(t *testing.T, draws []byte) *tape.Tape {
	t.Helper()
	x, err := tape.New(draws)
	if err != nil {
		t.Fatal(err)
	}
	return x
}

func bookOf(t *testing.T, draws []byte) *block.Book {
	t.Helper()
	b := block.NewBook(laid(t, draws))
	if b == nil {
		t.Fatal("no book")
	}
	return b
}

// sixteens is draws of one byte each, sixteen times.
func sixteens(each ...byte) []byte {
	var draws []byte
	for _, b := range each {
		draws = append(draws, filled(16, b)...)
	}
	return draws
}

func made(t *testing.T, kind int, key []byte, b *block.Book) *block.Cipher {
	t.Helper()
	c, err := block.New(kind, key, b)
	if err != nil || c == nil {
		t.Fatalf("no cipher of kind %d with a key of %d bytes: %v", kind, len(key), err)
	}
	return c
}

func oracle(t *testing.T, key string, b *block.Book) *block.Cipher {
	t.Helper()
	return made(t, api.Oracle, []byte(key), b)
}

// rightSizes is the lengths that a key of a kind may have, as the chapter's
// words list them.
func rightSizes(kind int) []int {
	switch kind {
	case api.AES:
		return []int{16, 24, 32}
	case api.TDES:
		return []int{8, 16, 24}
	}
	var all []int
	for size := 1; size <= 32; size++ {
		all = append(all, size)
	}
	return all
}

func sizeByWords(kind int) int {
	if kind == api.TDES {
		return 8
	}
	return 16
}

func wantDo(t *testing.T, c *block.Cipher, in []byte, back bool, want []byte) {
	t.Helper()
	got, err := c.Do(in, back)
	if err != nil || !bytes.Equal(got, want) {
		t.Errorf("Do(%x, %v) is %x, %v, want %x", in, back, got, err, want)
	}
}

// wantRow asks for sixteen bytes of one number and wants sixteen of another.
func wantRow(t *testing.T, c *block.Cipher, in byte, back bool, want byte) {
	t.Helper()
	wantDo(t, c, filled(16, in), back, filled(16, want))
}

func wantRows(t *testing.T, b *block.Book, rows int) {
	t.Helper()
	if b.Rows() != rows {
		t.Errorf("the book has %d rows, want %d", b.Rows(), rows)
	}
}

func wantLeft(t *testing.T, x *tape.Tape, left int) {
	t.Helper()
	if x.Left() != left {
		t.Errorf("%d bytes are left on the tape, want %d", x.Left(), left)
	}
}

// wantAlone wants an error that is a number without a place.
func wantAlone(t *testing.T, err error, number api.Errno) {
	t.Helper()
	if !errors.Is(err, number) || api.Code(err) != int(number) || api.At(err) != -1 {
		t.Errorf("the error is %v at %d, want %d alone", err, api.At(err), int(number))
	}
}

func wantRefused(t *testing.T, kind int, key []byte, b *block.Book, number api.Errno) {
	t.Helper()
	c, err := block.New(kind, key, b)
	if c != nil {
		t.Errorf("kind %d takes a key of %d bytes", kind, len(key))
	}
	wantAlone(t, err, number)
}

// wantEnd wants the tape's fault of a block that needs draws, and no row of it.
func wantEnd(t *testing.T, c *block.Cipher, in []byte, back bool, left int) {
	t.Helper()
	got, err := c.Do(in, back)
	var fault *api.Fault
	if !errors.As(err, &fault) || fault.At != left || !errors.Is(err, api.ErrTape) || api.Code(err) != 13 {
		t.Errorf("the error is %v at %d, want a fault of ErrTape at %d", err, api.At(err), left)
	}
	if len(got) != 0 {
		t.Errorf("Do(%x, %v) is %x beside an error", in, back, got)
	}
}

// P5.2, the chapter's example, of whatever block, either way.
func TestExample(t *testing.T) {
	for _, in := range [][]byte{filled(16, 0), filled(16, 7), filled(16, 0xff), counted(16), seeded(16, 1)} {
		for _, back := range []bool{false, true} {
			b := bookOf(t, filled(16, 7))
			c := oracle(t, "k", b)
			wantDo(t, c, in, back, filled(16, 7))
			wantDo(t, c, filled(16, 7), !back, in)
			wantRows(t, b, 1)
		}
	}
}

// P5.1, a new book has no rows, and making it draws nothing.
func TestNewBook(t *testing.T) {
	for _, size := range []int{0, 1, 16, api.MaxTape} {
		x := laid(t, make([]byte, size))
		b := block.NewBook(x)
		if b == nil {
			t.Fatal("no book")
		}
		wantRows(t, b, 0)
		oracle(t, "k", b)
		wantRows(t, b, 0)
		wantLeft(t, x, size)
	}
}

// P5.1, each kind with keys of all lengths, with a book and, but for the
// oracle, without one: a cipher, or ErrSize.
func TestKeysOfAllLengths(t *testing.T) {
	b := bookOf(t, nil)
	for _, kind := range kinds {
		for size := range 300 {
			key := counted(size)
			if !slices.Contains(rightSizes(kind), size) {
				wantRefused(t, kind, key, b, api.ErrSize)
				continue
			}
			if c := made(t, kind, key, b); c.Size() != sizeByWords(kind) {
				t.Errorf("a block of kind %d has %d bytes", kind, c.Size())
			}
		}
		wantRefused(t, kind, nil, b, api.ErrSize)
		wantRefused(t, kind, make([]byte, 1<<16+16), b, api.ErrSize)
	}
	wantRows(t, b, 0)
}

// P5.1, AES and TDES need no book.
func TestWithoutBook(t *testing.T) {
	for _, kind := range []int{api.AES, api.TDES} {
		for size := range 40 {
			if !slices.Contains(rightSizes(kind), size) {
				wantRefused(t, kind, counted(size), nil, api.ErrSize)
				continue
			}
			if c := made(t, kind, counted(size), nil); c.Size() != sizeByWords(kind) {
				t.Errorf("a block of kind %d has %d bytes", kind, c.Size())
			}
		}
	}
}

// P5.1, the oracle without a book, with keys of right lengths and of others: the
// book is told first.
func TestOracleWithoutBook(t *testing.T) {
	for _, size := range []int{0, 1, 8, 16, 31, 32, 33, 100} {
		wantRefused(t, api.Oracle, counted(size), nil, api.ErrArg)
	}
}

// P5.1, kinds below and above those that there are, whatever the key is.
func TestOtherKinds(t *testing.T) {
	b := bookOf(t, filled(64, 1))
	for _, kind := range []int{0, 4, -1, -2, -3, 5, 8, 16, 255, 256, 257, 258, 1 << 16, 1<<32 + 1, math.MaxInt, math.MinInt} {
		for _, size := range []int{0, 1, 7, 8, 16, 24, 32, 33} {
			wantRefused(t, kind, counted(size), b, api.ErrArg)
			wantRefused(t, kind, counted(size), nil, api.ErrArg)
		}
	}
}

// P5.2, AES and TDES as they were published.
func TestKnownBlocks(t *testing.T) {
	for _, x := range []struct {
		kind           int
		key, in, wants string
	}{
		{api.AES, "000102030405060708090a0b0c0d0e0f", "00112233445566778899aabbccddeeff", "69c4e0d86a7b0430d8cdb78070b4c55a"},
		{api.AES, "000102030405060708090a0b0c0d0e0f1011121314151617", "00112233445566778899aabbccddeeff", "dda97ca4864cdfe06eaf70a0ec0d7191"},
		{api.AES, "000102030405060708090a0b0c0d0e0f101112131415161718191a1b1c1d1e1f", "00112233445566778899aabbccddeeff", "8ea2b7ca516745bfeafc49904b496089"},
		{api.TDES, "133457799bbcdff1", "0123456789abcdef", "85e813540f0ab405"},
	} {
		c := made(t, x.kind, unhex(t, x.key), nil)
		in, want := unhex(t, x.in), unhex(t, x.wants)
		wantDo(t, c, in, false, want)
		wantDo(t, c, want, true, in)
	}
}

// P5.2, AES is layer 2's, either way, with keys of each length.
func TestAES(t *testing.T) {
	for seed := range int64(20) {
		for _, size := range rightSizes(api.AES) {
			key, in := seeded(size, seed), [16]byte(seeded(16, 100+seed))
			c := made(t, api.AES, key, nil)
			there, _ := aes.Encrypt(key, in)
			back, _ := aes.Decrypt(key, in)
			wantDo(t, c, in[:], false, there[:])
			wantDo(t, c, in[:], true, back[:])
		}
	}
}

// P5.2, TDES is layer 3's and the library's, either way, with keys of each
// length.
func TestTDES(t *testing.T) {
	for seed := range int64(20) {
		for _, size := range rightSizes(api.TDES) {
			key, in := seeded(size, seed), [8]byte(seeded(8, 100+seed))
			c := made(t, api.TDES, key, nil)
			for _, back := range []bool{false, true} {
				want, _ := ourdes.Triple(key, in, back)
				wantDo(t, c, in[:], back, want[:])
			}
			long := slices.Concat(key, key, key)
			if size == 16 {
				long = slices.Concat(key, key[:8])
			}
			library, err := des.NewTripleDESCipher(long[:24])
			if err != nil {
				t.Fatal(err)
			}
			want := make([]byte, 8)
			library.Encrypt(want, in[:])
			wantDo(t, c, in[:], false, want)
			library.Decrypt(want, in[:])
			wantDo(t, c, in[:], true, want)
		}
	}
}

// P5.2, AES and TDES leave a book that is handed in as it is.
func TestBookOfOthersStays(t *testing.T) {
	for _, kind := range []int{api.AES, api.TDES} {
		x := laid(t, filled(64, 3))
		b := block.NewBook(x)
		c := made(t, kind, counted(16), b)
		for _, back := range []bool{false, true} {
			if _, err := c.Do(make([]byte, c.Size()), back); err != nil {
				t.Error(err)
			}
		}
		wantRows(t, b, 0)
		wantLeft(t, x, 64)
	}
}

// P5.2, blocks of all other lengths, of each kind, either way: ErrSize, and
// nothing is drawn.
func TestBlocksOfOtherLengths(t *testing.T) {
	for _, kind := range kinds {
		x := laid(t, filled(64, 3))
		b := block.NewBook(x)
		c := made(t, kind, counted(16), b)
		for size := range 70 {
			if size == sizeByWords(kind) {
				continue
			}
			wantOtherBlock(t, c, make([]byte, size))
			wantOtherBlock(t, c, make([]byte, size, 100))
		}
		wantOtherBlock(t, c, nil)
		wantOtherBlock(t, c, make([]byte, 1<<16+c.Size()))
		wantRows(t, b, 0)
		wantLeft(t, x, 64)
	}
}

func wantOtherBlock(t *testing.T, c *block.Cipher, in []byte) {
	t.Helper()
	for _, back := range []bool{false, true} {
		got, err := c.Do(in, back)
		if len(got) != 0 {
			t.Errorf("a block of %d bytes: %x beside an error", len(in), got)
		}
		wantAlone(t, err, api.ErrSize)
	}
}

// P5.2, a block of another length is told ahead of a tape that is at its end.
func TestSizeAheadOfTape(t *testing.T) {
	c := oracle(t, "k", bookOf(t, nil))
	wantOtherBlock(t, c, make([]byte, 15))
	wantOtherBlock(t, c, make([]byte, 8))
	wantEnd(t, c, make([]byte, 16), false, 0)
}

// P5.2 and P5.3, each kind, with keys of each length: back undoes forth, and
// forth back.
func TestThereAndBack(t *testing.T) {
	b := bookOf(t, seeded(api.MaxTape, 2))
	for _, kind := range kinds {
		for _, size := range rightSizes(kind) {
			c := made(t, kind, seeded(size, int64(size)), b)
			for seed := range int64(8) {
				for _, back := range []bool{false, true} {
					in := seeded(c.Size(), seed)
					there, err := c.Do(in, back)
					if err != nil || len(there) != c.Size() {
						t.Fatalf("kind %d: %x, %v", kind, there, err)
					}
					wantDo(t, c, there, !back, in)
					wantDo(t, c, in, back, there)
				}
			}
		}
	}
}

// P5.2 and P5.3, what the oracle was asked is answered again, and draws no more.
func TestAskedAgain(t *testing.T) {
	x := laid(t, sixteens(1, 2))
	b := block.NewBook(x)
	c := oracle(t, "k", b)
	wantRow(t, c, 9, false, 1)
	wantRow(t, c, 8, true, 2)
	wantLeft(t, x, 0)
	for range 3 {
		wantRow(t, c, 9, false, 1)
		wantRow(t, c, 1, true, 9)
		wantRow(t, c, 8, true, 2)
		wantRow(t, c, 2, false, 8)
	}
	wantRows(t, b, 2)
}

// P5.2, rows are of one key: another key has rows of its own, be it a start of
// the first one, or that with a zero behind it.
func TestKeysAreApart(t *testing.T) {
	keys := []string{"k", "l", "kk", "k\x00", "\x00k", "\x00", "\x00\x00", string(filled(32, 'k')), string(filled(31, 'k'))}
	draws := seeded(16*len(keys), 3)
	x := laid(t, draws)
	b := block.NewBook(x)
	for i, key := range keys {
		wantDo(t, oracle(t, key, b), filled(16, 9), false, draws[16*i:16*i+16])
		wantRows(t, b, i+1)
	}
	wantLeft(t, x, 0)
	for i, key := range keys {
		c := oracle(t, key, b)
		wantDo(t, c, filled(16, 9), false, draws[16*i:16*i+16])
		wantDo(t, c, draws[16*i:16*i+16], true, filled(16, 9))
		for k := range keys {
			if k != i {
				wantEnd(t, c, draws[16*k:16*k+16], true, 0)
			}
		}
	}
	wantRows(t, b, len(keys))
}

// P5.2, what is drawn for one key may stand in a row of another one.
func TestSameDrawForAnotherKey(t *testing.T) {
	b := bookOf(t, sixteens(1, 1, 1, 2))
	one, two := oracle(t, "k", b), oracle(t, "l", b)
	wantRow(t, one, 9, false, 1)
	wantRow(t, two, 9, false, 1)
	wantRow(t, one, 8, false, 2)
	wantRows(t, b, 3)
}

// P5.2, ciphers with the same key and book have the same rows.
func TestSameKeySameRows(t *testing.T) {
	b := bookOf(t, sixteens(1, 2))
	one, two := oracle(t, "k", b), oracle(t, "k", b)
	wantRow(t, one, 9, false, 1)
	wantRow(t, two, 9, false, 1)
	wantRow(t, two, 8, true, 2)
	wantRow(t, one, 2, false, 8)
	wantRow(t, oracle(t, "k", b), 1, true, 9)
	wantRows(t, b, 2)
}

// P5.1 and P5.2, books are apart, though they draw from one tape.
func TestBooksAreApart(t *testing.T) {
	x := laid(t, sixteens(1, 2, 3, 1))
	first, second := block.NewBook(x), block.NewBook(x)
	one, two := oracle(t, "k", first), oracle(t, "k", second)
	wantRow(t, one, 9, false, 1)
	wantRow(t, two, 9, false, 2)
	wantRow(t, one, 8, false, 3)
	wantRows(t, first, 2)
	wantRows(t, second, 1)
	wantRow(t, two, 8, false, 1)
	wantRows(t, second, 2)
	wantLeft(t, x, 0)
}

// P5.2, draws that stand in a row already are drawn again, as often as they do:
// forth they are held against what is enciphered to, back against the blocks.
func TestDrawnAgain(t *testing.T) {
	x := laid(t, sixteens(1, 1, 1, 2, 2, 1, 2, 3, 9, 8, 9, 4))
	b := block.NewBook(x)
	c := oracle(t, "k", b)
	wantRow(t, c, 9, false, 1)
	wantLeft(t, x, 16*11)
	wantRow(t, c, 8, false, 2)
	wantLeft(t, x, 16*8)
	wantRow(t, c, 7, false, 3)
	wantLeft(t, x, 16*4)
	wantRows(t, b, 3)
	wantRow(t, c, 5, true, 4)
	wantLeft(t, x, 0)
	wantRow(t, c, 4, false, 5)
	wantRows(t, b, 4)
}

// P5.2, a draw is held against one side alone: what stands on the other side of
// a row may be drawn, the block that is asked for, too.
func TestOtherSideMayBeDrawn(t *testing.T) {
	x := laid(t, sixteens(1, 9, 2, 5))
	b := block.NewBook(x)
	c := oracle(t, "k", b)
	wantRow(t, c, 9, false, 1)
	wantRow(t, c, 1, false, 9)
	wantRow(t, c, 2, false, 2)
	wantRow(t, c, 2, true, 2)
	wantRow(t, c, 5, true, 5)
	wantRow(t, c, 5, false, 5)
	wantRows(t, b, 4)
	wantLeft(t, x, 0)

	x = laid(t, sixteens(1, 9))
	b = block.NewBook(x)
	c = oracle(t, "k", b)
	wantRow(t, c, 9, true, 1)
	wantRow(t, c, 1, true, 9)
	wantRows(t, b, 2)
	wantLeft(t, x, 0)
}

// P5.2, tapes that end ahead of a draw, or in the middle of one: the fault tells
// how many bytes were left, these stay, and no row is made.
func TestTapeEnds(t *testing.T) {
	for left := range 16 {
		for _, back := range []bool{false, true} {
			x := laid(t, append(sixteens(1), counted(left)...))
			b := block.NewBook(x)
			c := oracle(t, "k", b)
			wantRow(t, c, 9, back, 1)
			for range 2 {
				wantEnd(t, c, filled(16, 8), back, left)
				wantEnd(t, c, filled(16, 8), !back, left)
				wantLeft(t, x, left)
				wantRows(t, b, 1)
			}
			wantRow(t, c, 9, back, 1)
			wantRow(t, c, 1, !back, 9)
		}
	}
}

// P5.2, what was drawn ahead of the tape's end, and stands in a row, is gone.
func TestDrawnByTheEndIsGone(t *testing.T) {
	for left := range 16 {
		for _, back := range []bool{false, true} {
			x := laid(t, append(sixteens(1, 2, 1, 2, 1), filled(left, 3)...))
			b := block.NewBook(x)
			c := oracle(t, "k", b)
			wantRow(t, c, 9, back, 1)
			wantRow(t, c, 8, back, 2)
			wantLeft(t, x, 48+left)
			wantEnd(t, c, filled(16, 7), back, left)
			wantLeft(t, x, left)
			wantRows(t, b, 2)
			wantEnd(t, oracle(t, "l", b), filled(16, 7), back, left)
		}
	}
}

// P5.2, who else draws from the tape takes draws from the oracle.
func TestTapeIsShared(t *testing.T) {
	x := laid(t, append(sixteens(1), append([]byte{5, 5}, sixteens(2)...)...))
	c := oracle(t, "k", block.NewBook(x))
	wantRow(t, c, 9, false, 1)
	if got, err := x.Take(2); err != nil || !bytes.Equal(got, []byte{5, 5}) {
		t.Errorf("behind the first draw stands %v, %v", got, err)
	}
	wantRow(t, c, 8, false, 2)
}

// P1, a book whose tape is nil, and a book and a cipher that nobody made: no
// panic.
func TestNothingPanics(t *testing.T) {
	for _, b := range []*block.Book{block.NewBook(nil), {}} {
		wantRows(t, b, 0)
		c := oracle(t, "k", b)
		wantEnd(t, c, make([]byte, 16), false, 0)
		wantEnd(t, c, make([]byte, 16), true, 0)
		wantRows(t, b, 0)
	}
	var c block.Cipher
	if c.Size() != 0 {
		t.Errorf("a block of no cipher has %d bytes", c.Size())
	}
	for _, size := range []int{0, 8, 16} {
		wantOtherBlock(t, &c, make([]byte, size))
	}
}

// plainRow is a row as the chapter tells it.
type plainRow struct {
	key      string
	from, to string
}

// plainBook is a book by the chapter's words: rows one behind the other.
type plainBook struct {
	rows  []plainRow
	draws []byte
}

// do is what the oracle answers; false if the draws are at their end.
func (p *plainBook) do(key, in string, back bool) (string, bool) {
	for _, r := range p.rows {
		if r.key == key && !back && r.from == in {
			return r.to, true
		}
		if r.key == key && back && r.to == in {
			return r.from, true
		}
	}
	for len(p.draws) >= 16 {
		drawn := string(p.draws[:16])
		p.draws = p.draws[16:]
		stands := slices.ContainsFunc(p.rows, func(r plainRow) bool {
			return r.key == key && (!back && r.to == drawn || back && r.from == drawn)
		})
		if stands {
			continue
		}
		if back {
			p.rows = append(p.rows, plainRow{key, drawn, in})
		} else {
			p.rows = append(p.rows, plainRow{key, in, drawn})
		}
		return drawn, true
	}
	return "", false
}

// fewBlocks is draws of which only some are unlike, so that they repeat.
func fewBlocks(draws *rand.Rand, many, unlike int) []byte {
	var all []byte
	for range many {
		all = append(all, filled(15, 0)...)
		all = append(all, byte(draws.Intn(unlike)))
	}
	return all
}

// P5.2 and P5.3, the oracle with some keys, asked both ways, on tapes whose draws
// repeat, held against the plain words: answers, rows, and what is left.
func TestAgainstWords(t *testing.T) {
	draws := rand.New(rand.NewSource(4))
	keys := []string{"k", "l", "k\x00"}
	for range 150 {
		bytesDrawn := append(fewBlocks(draws, draws.Intn(60), 6+draws.Intn(6)), counted(draws.Intn(16))...)
		x := laid(t, bytesDrawn)
		b, plain := block.NewBook(x), &plainBook{draws: bytesDrawn}
		var ciphers []*block.Cipher
		for _, key := range keys {
			ciphers = append(ciphers, oracle(t, key, b))
		}
		for range 80 {
			which, back := draws.Intn(len(keys)), draws.Intn(2) == 0
			in := fewBlocks(draws, 1, 12)
			want, ok := plain.do(keys[which], string(in), back)
			if ok {
				wantDo(t, ciphers[which], in, back, []byte(want))
			} else {
				wantEnd(t, ciphers[which], in, back, len(plain.draws))
			}
			wantRows(t, b, len(plain.rows))
			wantLeft(t, x, len(plain.draws))
		}
		if t.Failed() {
			return
		}
	}
}

// P5.3, rows of one key are a permutation: of some blocks, all of which are
// asked, one way or the other, on draws of just these, each is answered once.
func TestPermutation(t *testing.T) {
	const unlike = 20
	draws := rand.New(rand.NewSource(5))
	for range 30 {
		b := bookOf(t, fewBlocks(draws, 1000, unlike))
		for _, key := range []string{"k", "l"} {
			c := oracle(t, key, b)
			for _, last := range draws.Perm(unlike) {
				in := append(filled(15, 0), byte(last))
				if _, err := c.Do(in, draws.Intn(2) == 0); err != nil {
					t.Fatal(err)
				}
			}
			var there, back []int
			for last := range unlike {
				in := append(filled(15, 0), byte(last))
				forth, err1 := c.Do(in, false)
				undone, err2 := c.Do(in, true)
				if err1 != nil || err2 != nil {
					t.Fatal(err1, err2)
				}
				wantDo(t, c, forth, true, in)
				wantDo(t, c, undone, false, in)
				there, back = append(there, int(forth[15])), append(back, int(undone[15]))
			}
			slices.Sort(there)
			slices.Sort(back)
			for last := range unlike {
				if there[last] != last || back[last] != last {
					t.Fatalf("no permutation: %v, %v", there, back)
				}
			}
		}
		wantRows(t, b, 2*unlike)
	}
}

// P5.2 and P5.3, as many rows as the longest tape has draws.
func TestManyRows(t *testing.T) {
	const many = api.MaxTape / 16
	x := laid(t, seeded(api.MaxTape, 6))
	b := block.NewBook(x)
	c := oracle(t, "k", b)
	var all [many][]byte
	for i := range many {
		got, err := c.Do(numbered(i), i%2 == 1)
		if err != nil {
			t.Fatal(err)
		}
		all[i] = got
	}
	wantRows(t, b, many)
	wantLeft(t, x, 0)
	wantEnd(t, c, numbered(many), false, 0)
	for i := range many {
		wantDo(t, c, numbered(i), i%2 == 1, all[i])
		wantDo(t, c, all[i], i%2 == 0, numbered(i))
	}
}

func numbered(i int) []byte {
	return append(filled(14, 0), byte(i>>8), byte(i))
}

// P5.4, keys and blocks that are handed in stay, with what stands behind them in
// memory.
func TestHandedInStays(t *testing.T) {
	for _, kind := range kinds {
		for size := range 40 {
			room, text := counted(64), counted(64)
			c, err := block.New(kind, room[:size], bookOf(t, seeded(64, 7)))
			if err == nil {
				for _, in := range [][]byte{text[:c.Size()], text[:c.Size()-1], text[:c.Size()+1], text[:0]} {
					c.Do(in, false)
					c.Do(in, true)
				}
			}
			if !bytes.Equal(room, counted(64)) || !bytes.Equal(text, counted(64)) {
				t.Errorf("kind %d, a key of %d bytes: what was handed in is another", kind, size)
			}
		}
	}
}

// P5.4, a key that is changed behind New changes nothing.
func TestKeyIsNotKept(t *testing.T) {
	b := bookOf(t, seeded(1024, 8))
	for _, kind := range kinds {
		key := counted(16)
		c, same := made(t, kind, key, b), made(t, kind, counted(16), b)
		in := filled(c.Size(), 9)
		want, err := same.Do(in, false)
		if err != nil {
			t.Fatal(err)
		}
		clear(key)
		wantDo(t, c, in, false, want)
		copy(key, filled(16, 0xff))
		wantDo(t, c, want, true, in)
	}
}

// P5.4, a block that is changed behind Do changes nothing, and neither does an
// answer.
func TestBlocksAreNotKept(t *testing.T) {
	for _, kind := range kinds {
		for _, back := range []bool{false, true} {
			b := bookOf(t, sixteens(1, 2, 3))
			c := made(t, kind, counted(16), b)
			in := filled(c.Size(), 9)
			first, err := c.Do(in, back)
			if err != nil {
				t.Fatal(err)
			}
			want := bytes.Clone(first)
			for i := range in {
				in[i] = 77
			}
			for i := range first[:cap(first)] {
				first[:cap(first)][i] = 88
			}
			wantDo(t, c, filled(c.Size(), 9), back, want)
			wantDo(t, c, want, !back, filled(c.Size(), 9))
			if !bytes.Equal(in, filled(c.Size(), 77)) || !bytes.Equal(first, filled(c.Size(), 88)) {
				t.Errorf("kind %d: a later call changed an earlier one's memory", kind)
			}
		}
	}
}

// P5.4, two answers share no memory, be they of a new row or of one that is
// there.
func TestAnswersAreNew(t *testing.T) {
	for _, kind := range kinds {
		b := bookOf(t, sixteens(1, 2, 3))
		c := made(t, kind, counted(16), b)
		in := filled(c.Size(), 9)
		var answers [3][]byte
		for i := range answers {
			got, err := c.Do(in, false)
			if err != nil {
				t.Fatal(err)
			}
			answers[i] = got
		}
		want := bytes.Clone(answers[2])
		clear(answers[0])
		clear(answers[1])
		if !bytes.Equal(answers[2], want) || !bytes.Equal(in, filled(c.Size(), 9)) {
			t.Errorf("kind %d: answers share memory", kind)
		}
		wantDo(t, c, in, false, want)
	}
}

// P5.4, the bytes that a tape was made of may be changed.
func TestDrawsAreTheTapes(t *testing.T) {
	draws := sixteens(1, 2)
	c := oracle(t, "k", bookOf(t, draws))
	clear(draws)
	wantRow(t, c, 9, false, 1)
	wantRow(t, c, 8, true, 2)
}
