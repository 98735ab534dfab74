package strs

// A word's key is its numbers as bytes, so that a map knows it, and keys stand, byte by byte, as their words do.

// numberLen is how many bytes of a key a number takes.
const numberLen = 8

// signBit turns a number's order, as bits, into that of bytes: those below 0 first.
const signBit = 1 << 63

// keyOf is a word's key.
func keyOf(a []int) string {
	key := make([]byte, 0, len(a)*numberLen)
	for _, n := range a {
		bits := uint64(n) ^ signBit
		for shift := 64 - 8; shift >= 0; shift -= 8 {
			key = append(key, byte(bits>>shift))
		}
	}
	return string(key)
}

// wordOf is the word of a key.
func wordOf(key string) []int {
	a := make([]int, keyLen(key))
	for i := range a {
		bits := uint64(0)
		for j := i * numberLen; j < (i+1)*numberLen; j++ {
			bits = bits<<8 | uint64(key[j])
		}
		a[i] = int(bits ^ signBit)
	}
	return a
}

// keyLen is how many numbers the word of a key has.
func keyLen(key string) int { return len(key) / numberLen }

// keyHead is the key of the first k numbers of a key's word.
func keyHead(key string, k int) string {
	return key[:min(keyLen(key), max(k, 0))*numberLen]
}
