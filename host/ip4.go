package host

import (
	"strconv"
	"strings"

	"moor/digit"
)

// splitLabels splits by dots; one dot at the end counts for nothing.
func splitLabels(text string) []string {
	labels := strings.Split(text, ".")
	last := len(labels) - 1
	if last > 0 && labels[last] == "" {
		return labels[:last]
	}
	return labels
}

// isNumbersHost looks at the last label alone: a host that ends like an IP4
// must be one, even if the labels ahead are none of numbers.
func isNumbersHost(text string) bool {
	labels := splitLabels(text)
	last := labels[len(labels)-1]
	if strings.HasPrefix(last, "0x") {
		return digit.All(last[2:], 16)
	}
	return last != "" && digit.All(last, 10)
}

func readIP4(text string) (uint64, error) {
	labels := splitLabels(text)
	if len(labels) > 4 {
		return 0, errCount
	}
	last := len(labels) - 1
	address := uint64(0)
	for _, label := range labels[:last] {
		n, err := readNumber(label, 255)
		if err != nil {
			return 0, err
		}
		address = address<<8 | n
	}
	bits := 8 * (4 - last)
	n, err := readNumber(labels[last], 1<<bits-1)
	if err != nil {
		return 0, err
	}
	return address<<bits | n, nil
}

func tellIP4(address uint64) string {
	var numbers [4]string
	for i := range numbers {
		numbers[i] = strconv.FormatUint(address>>(24-8*i)&255, 10)
	}
	return strings.Join(numbers[:], ".")
}
