package layoutbin

import (
	"hash/crc32"
	"math/rand"
	"strings"
	"testing"
)

func expectSum(t *testing.T, s string, want uint32) {
	t.Helper()
	if got := Sum(s); got != want {
		t.Errorf("Sum(%s) = %08X; want %08X", short(s), got, want)
	}
}

// sumModel follows the sentences of promise 5.1 with a list of bits, the lowest one first.
func sumModel(s string) uint32 {
	var value [32]bool
	for i := range value {
		value[i] = true
	}
	for _, b := range []byte(s) {
		for i := range 8 {
			value[i] = value[i] != (b>>i&1 == 1)
		}
		for range 8 {
			out := value[0]
			copy(value[:], value[1:])
			value[31] = false
			for i := range value {
				value[i] = value[i] != (out && uint32(0xEDB88320)>>i&1 == 1)
			}
		}
	}
	var result uint32
	for i, bit := range value {
		if !bit {
			result |= 1 << i
		}
	}
	return result
}

func TestSumOfKnownStrings(t *testing.T) {
	expectSum(t, "123456789", 0xCBF43926)
	expectSum(t, "", 0)
	expectSum(t, "\x00", 0xD202EF8D)
	expectSum(t, "\xFF", 0xFF000000)
	expectSum(t, "a", 0xE8B7BE43)
	expectSum(t, "abc", 0x352441C2)
	expectSum(t, "\x00\x00\x00\x00", 0x2144DF1C)
	expectSum(t, "\xFF\xFF\xFF\xFF", 0xFFFFFFFF)
	expectSum(t, strings.Repeat("\x00", 32), 0x190A55AD)
	expectSum(t, strings.Repeat("\xFF", 32), 0xFF6CAB0B)
	expectSum(t, "The quick brown fox jumps over the lazy dog", 0x414FA339)
}

// Two bytes, because the second one meets all values that the first one leaves in the lowest bits.
func TestSumOfEveryByte(t *testing.T) {
	for first := range 256 {
		s := string([]byte{byte(first)})
		expectSum(t, s, sumModel(s))
		for second := range 256 {
			s := string([]byte{byte(first), byte(second)})
			expectSum(t, s, crc32.ChecksumIEEE([]byte(s)))
		}
	}
}

func TestSumAgreesWithModel(t *testing.T) {
	random := rand.New(rand.NewSource(5))
	for size := range 300 {
		bytes := make([]byte, size)
		random.Read(bytes)
		expectSum(t, string(bytes), sumModel(string(bytes)))
	}
}

func TestSumOfLongStrings(t *testing.T) {
	random := rand.New(rand.NewSource(5))
	for _, size := range []int{1<<16 - 1, 1 << 16, 1<<16 + 1, 1<<20 + 7, 1 << 24} {
		bytes := make([]byte, size)
		random.Read(bytes)
		expectSum(t, string(bytes), crc32.ChecksumIEEE(bytes))
		zeros := make([]byte, size)
		expectSum(t, string(zeros), crc32.ChecksumIEEE(zeros))
	}
}

func BenchmarkSum(b *testing.B) {
	s := strings.Repeat("RPL1\x00\x28\x80\xFF", 1<<17)
	b.SetBytes(int64(len(s)))
	for b.Loop() {
		Sum(s)
	}
}
