package host

import (
	"strconv"
	"strings"
)

const pieceCount = 8

func readIP6(text string) ([pieceCount]uint64, error) {
	var none, pieces [pieceCount]uint64
	ahead, behind, short := strings.Cut(text, "::")
	if !short {
		ahead, behind = "", text
	}
	front, err := readPieces(splitPieces(ahead))
	if err != nil {
		return none, err
	}
	back, err := readLastPieces(splitPieces(behind))
	if err != nil {
		return none, err
	}
	if !rightCount(len(front)+len(back), short) {
		return none, errCount
	}
	copy(pieces[:], front)
	copy(pieces[pieceCount-len(back):], back)
	return pieces, nil
}

// rightCount: `::` stands for one piece at least.
func rightCount(count int, short bool) bool {
	if short {
		return count < pieceCount
	}
	return count == pieceCount
}

// splitPieces gives nothing for an empty text, since beside `::` no piece need
// stand; a `:` too many leaves an empty piece, which is none.
func splitPieces(text string) []string {
	if text == "" {
		return nil
	}
	return strings.Split(text, ":")
}

func readPieces(texts []string) ([]uint64, error) {
	var pieces []uint64
	for _, text := range texts {
		piece, err := readPiece(text)
		if err != nil {
			return nil, PieceError{layer{text, err}}
		}
		pieces = append(pieces, piece)
	}
	return pieces, nil
}

func readPiece(text string) (uint64, error) {
	if len(text) < 1 || len(text) > 4 {
		return 0, errLength
	}
	return readDigits(text, 16, 1<<16-1)
}

// readLastPieces reads the pieces that end the IP6: only there may an end with
// dots stand for two of them.
func readLastPieces(texts []string) ([]uint64, error) {
	last := len(texts) - 1
	if last < 0 || !strings.Contains(texts[last], ".") {
		return readPieces(texts)
	}
	pieces, err := readPieces(texts[:last])
	if err != nil {
		return nil, err
	}
	end, err := readDotted(texts[last])
	if err != nil {
		return nil, PieceError{layer{texts[last], err}}
	}
	return append(pieces, end>>16, end&(1<<16-1)), nil
}

func readDotted(text string) (uint64, error) {
	numbers := strings.Split(text, ".")
	if len(numbers) != 4 {
		return 0, errCount
	}
	end := uint64(0)
	for _, number := range numbers {
		n, err := readDecimal(number)
		if err != nil {
			return 0, err
		}
		end = end<<8 | n
	}
	return end, nil
}

func tellIP6(pieces [pieceCount]uint64) string {
	start, length := longestNoughts(pieces)
	if length < 2 {
		return tellPieces(pieces[:])
	}
	return tellPieces(pieces[:start]) + "::" + tellPieces(pieces[start+length:])
}

// longestNoughts finds the longest row of pieces that are 0, the first of
// these if there are more.
func longestNoughts(pieces [pieceCount]uint64) (start, length int) {
	row := 0
	for i, piece := range pieces {
		if piece != 0 {
			row = 0
			continue
		}
		row++
		if row > length {
			start, length = i+1-row, row
		}
	}
	return start, length
}

func tellPieces(pieces []uint64) string {
	var texts []string
	for _, piece := range pieces {
		texts = append(texts, strconv.FormatUint(piece, 16))
	}
	return strings.Join(texts, ":")
}
