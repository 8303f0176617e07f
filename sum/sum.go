// Package sum is layer 1, CRC-32C checksums: see shared/doc/01-sum.md.
package sum

// fourSteps has what four steps make of each number below 16: half a byte is looked up at once, since the bits above it are only shifted by its steps.
var fourSteps = [16]uint32{
	0x00000000, 0x105ec76f, 0x20bd8ede, 0x30e349b1,
	0x417b1dbc, 0x5125dad3, 0x61c69362, 0x7198540d,
	0x82f63b78, 0x92a8fc17, 0xa24bb5a6, 0xb21572c9,
	0xc38d26c4, 0xd3d3e1ab, 0xe330a81a, 0xf36e6f75,
}

// checkBytes is how many bytes of a sealed string are its checksum.
const checkBytes = 4

// extended is the checksum of a string whose checksum is check, with s behind it. Checksums are carried on, not states, because that of nothing is 0: so a zero Sum needs no setting up.
func extended(check uint32, s string) uint32 {
	state := ^check
	for i := range len(s) {
		state ^= uint32(s[i])
		state = state>>4 ^ fourSteps[state&15]
		state = state>>4 ^ fourSteps[state&15]
	}
	return ^state
}

// Of is the checksum of the parts, one behind the other.
func Of(parts ...string) uint32 {
	check := uint32(0)
	for _, part := range parts {
		check = extended(check, part)
	}
	return check
}

// Sealed is s with its checksum behind it.
func Sealed(s string) string {
	c := Of(s)
	return s + string([]byte{byte(c >> 24), byte(c >> 16), byte(c >> 8), byte(c)})
}

// Open takes the checksum off a sealed string, if it is one.
func Open(s string) (string, bool) {
	if len(s) < checkBytes {
		return "", false
	}
	// The answer is cut out of the new sealed string, so that it shares nothing with s.
	body := len(s) - checkBytes
	sealed := Sealed(s[:body])
	if sealed != s {
		return "", false
	}
	return sealed[:body], true
}

// Sum is the checksum of what is written piece by piece. A zero Sum is one to which nothing has been written.
type Sum struct {
	check  uint32
	length int
}

// New is a sum to which nothing has been written.
func New() *Sum { return &Sum{} }

// Write puts s behind what has been written, and tells its length.
func (x *Sum) Write(s string) int {
	if x == nil {
		return 0
	}
	x.check = extended(x.check, s)
	x.length += len(s)
	return len(s)
}

// Value is the checksum of all that has been written.
func (x *Sum) Value() uint32 {
	if x == nil {
		return 0
	}
	return x.check
}

// Len is how many bytes have been written.
func (x *Sum) Len() int {
	if x == nil {
		return 0
	}
	return x.length
}

// Reset forgets all that has been written.
func (x *Sum) Reset() {
	if x != nil {
		*x = Sum{}
	}
}
